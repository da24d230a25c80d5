/- A part of the proof of a law of layer 12: aj. -/
import Derived.Test.YtealhichdbimlaaGreatZNai
import Derived.Laws.AppendOwn
import Derived.Laws.OwnMore
set_option linter.unusedVariables false
set_option linter.unusedSimpArgs false
set_option maxHeartbeats 12800000
set_option maxRecDepth 100000
namespace Go.Proofs.YtealhichdbimlaaGreat.B
open Go.Proofs.Tryz
open List renaming getElem?_toArray -> y0q, getElem?_cons_zero -> y1q, getElem?_cons_succ -> y2q
open Go.ChangeShapes Go.WideShapes Go.RowKit Go.Sort
inductive Wh
 | odd | no | cl (o : Int) | bk (o : Int) | dg (o : Int) | rs (o : Int) | rk (o : Int) | ln (o : Int)
def wh (a : Int) : Wh :=
 if a % 4 ≠ 0 then .odd else if 33554432 <= a /\ a < 33603584 then .cl (a - 33554432) else if 268500992 <= a /\ a < 268501248 then .bk (a - 268500992) else if 268566528 <= a /\ a < 268566548 then .dg (a - 268566528)
 else if 268632064 <= a /\ a < 268632080 then .rs (a - 268632064) else if 268697600 <= a /\ a < 268697636 then .rk (a - 268697600) else if 268763136 <= a /\ a < 268763148 then .ln (a - 268763136) else .no
inductive aB4 (a : Int) : Prop
 | odd (h : a % 4 ≠ 0) (e : wh a = .odd)
 | cl (h4 : a % 4 = 0) (h0 : 33554432 <= a) (h1 : a < 33603584) (e : wh a = .cl (a - 33554432))
 | bk (h4 : a % 4 = 0) (h0 : 268500992 <= a) (h1 : a < 268501248) (e : wh a = .bk (a - 268500992))
 | dg (h4 : a % 4 = 0) (h0 : 268566528 <= a) (h1 : a < 268566548) (e : wh a = .dg (a - 268566528))
 | rs (h4 : a % 4 = 0) (h0 : 268632064 <= a) (h1 : a < 268632080) (e : wh a = .rs (a - 268632064))
 | rk (h4 : a % 4 = 0) (h0 : 268697600 <= a) (h1 : a < 268697636) (e : wh a = .rk (a - 268697600))
 | ln (h4 : a % 4 = 0) (h0 : 268763136 <= a) (h1 : a < 268763148) (e : wh a = .ln (a - 268763136))
 | no (h4 : a % 4 = 0) (h : ¬ (33554432 <= a /\ a < 33603584) /\ ¬ (268500992 <= a /\ a < 268501248) /\ ¬ (268566528 <= a /\ a < 268566548) /\ ¬ (268632064 <= a /\ a < 268632080) /\ ¬ (268697600 <= a /\ a < 268697636) /\ ¬ (268763136 <= a /\ a < 268763148)) (e : wh a = .no)
theorem uJ (a : Int) : aB4 a := by
 by_cases h4 : a % 4 = 0
 . by_cases h1 : 33554432 <= a /\ a < 33603584
   . exact .cl h4 h1.1 h1.2 (by unfold wh; rw [if_neg (by omega), if_pos h1])
   . by_cases h2 : 268500992 <= a /\ a < 268501248
     . exact .bk h4 h2.1 h2.2 (by unfold wh; rw [if_neg (by omega), if_neg h1, if_pos h2])
     . by_cases h3 : 268566528 <= a /\ a < 268566548
       . exact .dg h4 h3.1 h3.2 (by unfold wh; rw [if_neg (by omega), if_neg h1, if_neg h2, if_pos h3])
       . by_cases h5 : 268632064 <= a /\ a < 268632080
         . exact .rs h4 h5.1 h5.2 (by unfold wh; rw [if_neg (by omega), if_neg h1, if_neg h2, if_neg h3, if_pos h5])
         . by_cases h6 : 268697600 <= a /\ a < 268697636
           . exact .rk h4 h6.1 h6.2 (by unfold wh; rw [if_neg (by omega), if_neg h1, if_neg h2, if_neg h3, if_neg h5, if_pos h6])
           . by_cases h7 : 268763136 <= a /\ a < 268763148
             . exact .ln h4 h7.1 h7.2 (by unfold wh; rw [if_neg (by omega), if_neg h1, if_neg h2, if_neg h3, if_neg h5, if_neg h6, if_pos h7])
             . exact .no h4 ⟨h1, h2, h3, h5, h6, h7⟩ (by unfold wh; rw [if_neg (by omega), if_neg h1, if_neg h2, if_neg h3, if_neg h5, if_neg h6, if_neg h7])
 . exact .odd h4 (by unfold wh; rw [if_pos h4])
def Bx.ldv (n c : Nat) (x : Bx) (a : Int) : Int := match wh a with
 | .odd => 0 | .no => 0 | .cl o => eA x.ti n x.D x.S o | .bk o => vI c x.tm o | .dg o => x.wd.val o | .rs o => hI x.rs o | .rk o => x.rk.valE o | .ln o => rX (wires n c x) x.msk o
def Bx.lde (n c : Nat) (a : Int) : Int := match wh a with
 | .odd => 11 | .no => 10 | .cl o => cT n o | .bk o => nV c o | .dg o => eH o | .rs o => dK o | .rk o => dF o | .ln o => kK o
def Bx.put (n c : Nat) (x : Bx) (a v : Int) : Bx := match wh a with
 | .odd => x | .no => x | .cl o => { x with D := qR n x.D o v, S := qT n x.S o v } | .bk o => { x with tm := zD c x.tm o v } | .dg o => { x with wd := x.wd.sto o v } | .rs o => { x with rs := x.rs.sto o v }
 | .rk o => { x with rk := x.rk.sto o v } | .ln o => if o = 4 then { x with msk := v } else x
def Bx.due (x : Bx) : Int := if x.rs.qs = true then 16 else x.wd.fa
def Bx.look (x : Bx) : Bx := if x.due = 0 then x else x.rst x.due
def Bx.sto (n c : Nat) (x : Bx) (a v : Int) : Bx := (x.put n c a v).look
section
variable {n c : Nat} {x : Bx}
theorem vH {t : Nat -> Tm} (h : ∀ i, i < c -> (t i).ok) {o v : Int} (v0 : 0 <= v) (v1 : v < 4294967296) : ∀ i, i < c -> (zD c t o v i).ok := by
 intro i hi
 unfold zD
 split
 . unfold nN
   split
   . rename_i e; subst e; exact Tm.sto_ok (h _ hi) _ _ v0 v1
   . exact h i hi
 . exact h i hi
theorem qS {D : Nat -> Int} (h : uR D) {o v : Int} (v0 : 0 <= v) (v1 : v < 4294967296) : uR (qR n D o v) := by
 unfold qR
 split
 . split
   . exact h.upd _ (dJ (gC (h _).1) (rQ (h _).2) v0 v1).1 (dJ (gC (h _).1) (rQ (h _).2) v0 v1).2
   . exact h.upd _ (dJ v0 v1 (dN _) (nY _)).1 (dJ v0 v1 (dN _) (nY _)).2
 . exact h
theorem qU {S : Nat -> Int} (h : uS S) {o v : Int} (v0 : 0 <= v) : uS (qT n S o v) := by
 unfold qT
 split
 . exact h.upd _ (by omega) (by omega)
 . exact h
theorem Bx.put_ok (h : x.ok n c) {a v : Int} (v0 : 0 <= v) (v1 : v < 4294967296) : (x.put n c a v).ok n c := by
 unfold Bx.put
 split
 . exact h
 . exact h
 . exact ⟨h.n0, h.n8, h.c0, h.c8, h.t0, h.t1, qS h.d v0 v1, qU h.s v0, h.tm, h.wd, h.rs, h.rk, h.m0, h.m1⟩
 . exact ⟨h.n0, h.n8, h.c0, h.c8, h.t0, h.t1, h.d, h.s, vH h.tm v0 v1, h.wd, h.rs, h.rk, h.m0, h.m1⟩
 . exact ⟨h.n0, h.n8, h.c0, h.c8, h.t0, h.t1, h.d, h.s, h.tm, Wd.sto_ok h.wd v0 v1, h.rs, h.rk, h.m0, h.m1⟩
 . exact ⟨h.n0, h.n8, h.c0, h.c8, h.t0, h.t1, h.d, h.s, h.tm, h.wd, Rs.sto_ok h.rs v0 v1, h.rk, h.m0, h.m1⟩
 . exact ⟨h.n0, h.n8, h.c0, h.c8, h.t0, h.t1, h.d, h.s, h.tm, h.wd, h.rs, Rk.sto_ok h.rk v0 v1, h.m0, h.m1⟩
 . split
   . exact ⟨h.n0, h.n8, h.c0, h.c8, h.t0, h.t1, h.d, h.s, h.tm, h.wd, h.rs, h.rk, v0, v1⟩
   . exact h
theorem Wd.sto_fa {t : Wd} (h : t.fa = 0) (o v : Int) : (t.sto o v).fa = 0 \/ (t.sto o v).fa = 4 \/ (t.sto o v).fa = 8 := by
 unfold Wd.sto Wd.ctlPut Wd.ctlTo Wd.key
 (repeat' split) <;> simp [h]
theorem Bx.put_due (hs : x.still) (a v : Int) : ((x.put n c a v).wd.fa = 0 \/ (x.put n c a v).wd.fa = 4 \/ (x.put n c a v).wd.fa = 8) /\ ((x.put n c a v).rs.qs = false \/ (x.put n c a v).wd.fa = 0) := by
 obtain ⟨h1, h2⟩ := hs
 unfold Bx.put
 split
 . exact ⟨.inl h1, .inl h2⟩
 . exact ⟨.inl h1, .inl h2⟩
 . exact ⟨.inl h1, .inl h2⟩
 . exact ⟨.inl h1, .inl h2⟩
 . exact ⟨Wd.sto_fa h1 _ _, .inl h2⟩
 . exact ⟨.inl h1, .inr h1⟩
 . exact ⟨.inl h1, .inl h2⟩
 . split
   . exact ⟨.inl h1, .inl h2⟩
   . exact ⟨.inl h1, .inl h2⟩
theorem Bx.put_isC (hs : x.still) (a v : Int) : (x.put n c a v).due = 0 \/ iK (x.put n c a v).due := by
 have h := Bx.put_due (n := n) (c := c) hs a v
 unfold Bx.due
 split
 . exact .inr (.inr (.inr (.inr rfl)))
 . rcases h.1 with e | e | e
   . exact .inl e
   . exact .inr (.inr (.inl e))
   . exact .inr (.inr (.inr (.inl e)))
theorem Bx.look_ok (h : x.ok n c) (hc : x.due = 0 \/ iK x.due) : (x.look).ok n c /\ (x.look).still := by
 unfold Bx.look
 split
 . rename_i e
   refine ⟨h, ?_⟩
   unfold Bx.due at e
   split at e
   . exact absurd e (by decide)
   . rename_i q
     exact ⟨e, by simpa using q⟩
 . rename_i e
   exact ⟨Bx.rst_ok h _, Bx.rst_still (hc.resolve_left e)⟩
theorem Bx.sto_ok (h : x.ok n c) (hs : x.still) {a v : Int} (v0 : 0 <= v) (v1 : v < 4294967296) : (x.sto n c a v).ok n c /\ (x.sto n c a v).still :=
 Bx.look_ok (Bx.put_ok h v0 v1) (Bx.put_isC hs a v)
end
structure Rg where
 v : Int
 s : Int
 r : Int
 c : Int
def Rg.val (x : Rg) : Value := .agg #[.int .u32 x.v, .int .u32 x.s, .int .u32 x.r, .int .u32 x.c]
def Rg.wf (x : Rg) : Prop := (0 <= x.v /\ x.v < 4294967296) /\ (0 <= x.s /\ x.s < 4294967296) /\ (0 <= x.r /\ x.r < 4294967296) /\ (0 <= x.c /\ x.c < 4294967296)
def bW (b s a : Int) : Bool := decide (b <= a /\ a - b < s)
theorem aCc (b s a : Int) (w : World) (b0 : 0 <= b) (b1 : b < 4294967296) (s0 : 0 <= s) (s1 : s < 4294967296) (a0 : 0 <= a) (a1 : a < 4294967296) :
 Calls prog 215 #[.agg #[.int .u32 b, .int .u32 s], .int .u32 a] w fun e w' => e = .returned (.bool (bW b s a)) /\ Below w.heap.size w w' := by
 by_cases h1 : b <= a
 . by_cases h2 : a - b < s
   all_goals
    have h3 : decide (a - b < s) = bW b s a := by unfold bW; rw [decide_eq_decide]; omega
    have h4 := Hd h3
    clear h3
    go_enter func215, ntmps215
    go_wp2_with fail
    go_ret
    exact ⟨bI (by rw [<- h4.out]; simp; omega), aO (aV w) _⟩
 . have h3 : bW b s a = false := by unfold bW; simp; omega
   have h4 := Hd h3
   clear h3
   go_enter func215, ntmps215
   go_wp2_with fail
   go_ret
   exact ⟨bI h4.out.symm, aO (aV w) _⟩
theorem aAY (b s : Int) (w : World) (b0 : 0 <= b) (b1 : b < 4294967296) (s0 : 0 <= s) (s1 : s < 4294967296) :
 Calls prog 216 #[.agg #[.int .u32 b, .int .u32 s]] w fun e w' => e = .returned (.int .u64 (b + s)) /\ Below w.heap.size w w' := by
 go_enter func216, ntmps216
 go_wp2_with fail
 go_ret
 refine ⟨bO ?_, aO (aV w) _⟩
 rfl
theorem uN (b s a : Int) (v : Bool) (w : World) (b0 : 0 <= b) (b1 : b < 4294967296) (s0 : 0 <= s) (s1 : s < 4294967296) (a0 : 0 <= a) (a1 : a < 4294967296) (hv : bW b s a = v) :
 Calls prog 215 #[.agg #[.int .u32 b, .int .u32 s], .int .u32 a] w fun e w' => e = .returned (.bool v) /\ Below w.heap.size w w' := by
 rw [<- hv]; exact aCc b s a w b0 b1 s0 s1 a0 a1
def lT (b s c t : Int) : Bool := decide ((if b <= c then c else b) < (if b + s <= c + t then b + s else c + t))
theorem aBq (b s c t : Int) (w : World) (b0 : 0 <= b) (b1 : b < 4294967296) (s0 : 0 <= s) (s1 : s < 4294967296) (c0 : 0 <= c) (c1 : c < 4294967296) (t0 : 0 <= t) (t1 : t < 4294967296) :
 Calls prog 219 #[.agg #[.int .u32 b, .int .u32 s], .agg #[.int .u32 c, .int .u32 t]] w fun e w' => e = .returned (.bool (lT b s c t)) /\ Below w.heap.size w w' := by
 have hg := bY
 have hf := bT
 have hs0 : w.heap.size < w.heap.size + 1 + 1 := by omega
 have hs1 : w.heap.size + 1 < w.heap.size + 1 + 1 := by omega
 go_enter func219, ntmps219
 go_wp2_with fail
 refine wp_region_quiet_below (by kernel_rfl) (by kernel_rfl) ?_
 repeat (go_big_quiet_step (first
  | (go_at_call 216; exact Calls.regrown_of (aAY _ _ _ b0 b1 s0 s1))
  | (go_at_call 216; exact Calls.regrown_of (aAY _ _ _ c0 c1 t0 t1))))
 refine wpQuiet_nil ?_
 intro _ hw'
 obtain ⟨⟨dq, osq⟩, hw''⟩ := hw'
 subst hw''
 go_wp2_with fail
 all_goals
  go_ret
  refine ⟨bI ?_, trG (aO (aO (aV w) _) _) _ _⟩
  unfold lT
  rw [decide_eq_decide]
  clear hg hf
  (repeat' split) <;> omega
theorem gM (a : Int) (w : World) (a0 : 0 <= a) (a1 : a < 4294967296) :
 Calls prog 214 #[.int .u32 a] w fun e w' => e = .returned (.agg #[.int .u32 (a / 16777216)]) /\ Below w.heap.size w w' := by
 go_enter func214, ntmps214
 go_wp2_with fail
 refine bodyPost_ret (v := .agg #[.int .u32 (a / 16777216)]) ?_ rfl ?_
 . simp [results, results214, go_sem]
 . exact ⟨rfl, aO (aV w) _⟩
theorem aAX (b s : Int) (w : World) (b0 : 0 <= b) (b1 : b < 4294967296) (s0 : 0 <= s) (s1 : s < 4294967296) (h1 : (b % 4 != 0) = false) (h2 : (s % 4 != 0) = false) (h3 : (s == 0) = false) (h4 : b + s <= 4294967296) :
 Calls prog 178 #[.agg #[.int .u32 b, .int .u32 s]] w fun e w' => e = .returned (.int .i64 0) /\ Below w.heap.size w w' := by
 go_enter func178, ntmps178
 go_wp2_with (go_at_call 216; refine (aAY _ _ _ b0 b1 s0 s1).mono ?_; rintro e w1 ⟨rfl, hb1⟩)
 go_ret
 exact ⟨rfl, tr (aO (aV w) _) hb1⟩
theorem aAZ (a : Int) (w : World) :
 Calls prog 234 #[.int .u32 a] w fun e w' => e = .returned (.bool false) /\ w = w' := by
 go_enter func234, ntmps234
 go_wp2_with fail
 go_ret
 exact ⟨bI (by simp), rfl⟩
def gL (a b : Int) : Int := if a < b then -1 else if b < a then 1 else 0
theorem fX {P : Prop} (h : P := by
 go_enter func222, ntmps222
 go_wp2_with (go_at_call 234; refine (aAZ _ _).mono ?_; rintro e w1 ⟨rfl, rfl⟩)
 go_ret
 exact ⟨bO hx.out.symm, rfl⟩
 ) : P := h
theorem uL (a b : Int) (w : World) :
 Calls prog 222 #[.int .u32 a, .int .u32 b] w fun e w' => e = .returned (.int .i64 (gL a b)) /\ w = w' := by
 by_cases h1 : a < b
 . have hx := Hd (show gL a b = -1 by unfold gL; rw [if_pos h1])
   exact fX
 . by_cases h2 : b < a
   . have hx := Hd (show gL a b = 1 by unfold gL; rw [if_neg h1, if_pos h2])
     exact fX
   . have hx := Hd (show gL a b = 0 by unfold gL; rw [if_neg h1, if_neg h2])
     exact fX
theorem fL {α : Type} (f : α -> List Value) (n : Nat) (h : ∀ x, (f x).length = n) : ∀ L : List α, (L.flatMap f).length = L.length * n
 | [] => by simp
 | x :: L => by rw [List.flatMap_cons, List.length_append, h, fL f n h L, List.length_cons, Nat.add_mul]; omega
theorem kD {α : Type} (f : α -> List Value) (n : Nat) (h : ∀ x, (f x).length = n) : ∀ (L : List α) (k j : Nat) (x : α), L[k]? = some x -> j < n -> (L.flatMap f)[k * n + j]? = (f x)[j]?
 | [], k, j, x, hx, _ => by simp at hx
 | y :: L, 0, j, x, hx, hj => by
   simp at hx; subst hx
   rw [List.flatMap_cons, Nat.zero_mul, Nat.zero_add, List.getElem?_append_left (by rw [h]; exact hj)]
 | y :: L, k + 1, j, x, hx, hj => by
   rw [List.flatMap_cons, List.getElem?_append_right (by rw [h, Nat.add_mul]; omega), h, show (k + 1) * n + j - n = k * n + j by rw [Nat.add_mul]; omega]
   exact kD f n h L k j x (by simpa using hx) hj
theorem fO {α : Type} {f : α -> List Value} {n : Nat} (h : ∀ x, (f x).length = n) {w : World} {base : Nat} {e : TypeId} {v : Value} {L : List α} (ho : w.ownsRow base e n v L.length (L.flatMap f)) {g cap : Nat} (hv : v = .slice (some ⟨g, 0, none⟩) L.length cap)
 {k : Nat} {x : α} (hx : L[k]? = some x) (j : Nat) (hj : j < n) : w.cell? ⟨g, k * n + j, none⟩ = (f x)[j]? := by
 subst hv
 have hk : k < L.length := (List.getElem?_eq_some_iff.1 hx).1
 have hb : k * n + j < L.length * n := by
  have : (k + 1) * n <= L.length * n := Nat.mul_le_mul_right n hk
  rw [Nat.add_mul] at this; omega
 rw [ho.cellAt _ hb]
 exact kD f n h L k j x hx hj
theorem eF {w : World} {base : Nat} {e : TypeId} {n m : Nat} {v : Value} {xs : List Value} (ho : w.ownsRow base e n v m xs) :
 (v = .slice none 0 0 /\ m = 0) \/ ∃ g cap, v = .slice (some ⟨g, 0, none⟩) m cap /\ m <= cap /\ cap <= maxLen /\ g < w.heap.size /\ ∃ cur, w.heap[g]? = some (.cells cur e (0, 0)) := by
 rcases ho.2 with h | ⟨g, cap, cur, h1, _, h2, h3, h4, _, _⟩
 . exact .inl h
 . exact .inr ⟨g, cap, h1, h3, h4, lt_of_block h2, cur, h2⟩
structure aAl where
 b : Int
 s : Int
 f : Nat
def aM (x : Int × Int) : List Value := [.int .u32 x.1, .int .u32 x.2]
def aAl.wf (x : aAl) : Prop := 0 <= x.b /\ 0 < x.s /\ x.b + x.s <= 16777216
theorem cF {w w' : World} {base : Nat} {e : TypeId} {n m : Nat} {v : Value} {xs : List Value} (h : w.ownsRow base e n v m xs) (hk : ∀ g, v.ownBlock = some g -> w'.heap[g]? = w.heap[g]?) : w'.ownsRow base e n v m xs := by
 refine ⟨h.1, ?_⟩
 rcases h.2 with h2 | ⟨g, cap, cur, rfl, h3, h4, h5⟩
 . exact .inl h2
 . exact .inr ⟨g, cap, cur, rfl, h3, (hk g rfl).trans h4, h5⟩
theorem cG {w : World} {base : Nat} {e : TypeId} {n m : Nat} {v : Value} {xs : List Value} (h : w.ownsRow base e n v m xs) {k : Nat} (hk : v.ownBlock = some k) : ∃ cur, w.heap[k]? = some (.cells cur e (0, 0)) := by
 rcases h.2 with ⟨rfl, _⟩ | ⟨g, cap, cur, rfl, _, h3, _⟩
 . cases hk
 . cases hk; exact ⟨cur, h3⟩
def aZ : Value := .agg #[.int .u32 0, .int .u32 0, .nilIface]
theorem uM (a : Int) (pv : Option Addr) (w : World) (a0 : 0 <= a) (h : (a % 4 != 0) = true) :
 Calls prog 171 #[.pointer pv, .int .u32 a] w fun e w' => e = .returned (.tuple #[aZ, .int .i64 11]) /\ Below w.heap.size w w' := by
 go_enter func171, ntmps171
 go_wp2_with fail
 go_step3
 go_wp2_with fail
 rw [Exit.noGoto_ret]
 refine bodyPost_ret (v := .tuple #[aZ, .int .i64 11]) ?_ rfl ?_
 . simp [results, results171, go_sem, aZ]
 . exact ⟨rfl, aO (aV w) _⟩
theorem iB {w W : World} {tmps : Array Value} {c0 c1 c2 d0 d1 d2 : Value} {e : Int} (h4 : tmps[4]? = some (.pointer (some ⟨w.heap.size, 0, none⟩))) (h5 : tmps[5]? = some (.int .i64 e))
 (hX : W.heap[w.heap.size]? = some (.cells #[d0, d1, d2] 247 (0, 0))) (hb : Below w.heap.size w W) :
 bodyPost prog Tryz.f171 (fun e' w' => e' = .returned (.tuple #[.agg #[c0, c1, c2], .int .i64 e]) /\ Below w.heap.size w w') Exit.ret { tmps := tmps, defers := [] }
  (((W.setCell ⟨w.heap.size, 0, none⟩ c0).setCell ⟨w.heap.size, 1, none⟩ c1).setCell ⟨w.heap.size, 2, none⟩ c2) := by
 have hY := aK (aK (aK hX 0 c0) 1 c1) 2 c2
 have hbY : Below w.heap.size w (((W.setCell ⟨w.heap.size, 0, none⟩ c0).setCell ⟨w.heap.size, 1, none⟩ c1).setCell ⟨w.heap.size, 2, none⟩ c2) := ((hb.setCell (Nat.le_refl _) _).setCell (Nat.le_refl _) _).setCell (Nat.le_refl _) _
 generalize (((W.setCell ⟨w.heap.size, 0, none⟩ c0).setCell ⟨w.heap.size, 1, none⟩ c1).setCell ⟨w.heap.size, 2, none⟩ c2) = Y at hY hbY ⊢
 have hy0 := aA hY 0
 have hy1 := aA hY 1
 have hy2 := aA hY 2
 simp at hy0 hy1 hy2
 refine bodyPost_ret (v := .tuple #[.agg #[c0, c1, c2], .int .i64 e]) ?_ rfl ⟨rfl, hbY⟩
 simp [results, results171, go_sem, hy0, hy1, hy2, h4, h5]
def W2 (w : World) : World := (w.alloc (.cells #[.int .u32 0, .int .u32 0, .nilIface] 247)).alloc (.cells #[.int .u32 0, .int .u32 0, .nilIface] 247)
structure Su where
 b : Int
 s : Int
 ty : TypeId
 dv : Value
def Su.d (x : Su) : Value := .iface x.ty x.dv
def Su.cells (x : Su) : List Value := [.int .u32 x.b, .int .u32 x.s, x.d]
def Su.val (x : Su) : Value := .agg #[.int .u32 x.b, .int .u32 x.s, x.d]
def Su.wf (x : Su) : Prop := 0 <= x.b /\ (0 < x.s /\ x.s < 4294967296) /\ x.b + x.s <= 4294967296
def Su.on (x : Su) (u : Int) : Prop := x.b / 16777216 <= u /\ u <= (x.b + (x.s - 1)) / 16777216
def cO (ks : List Int) (pv : Int -> Value) (u : Int) : Value := if u ∈ ks then pv u else .slice none 0 0
structure bM (w : World) (p bm : Nat) (rv : Value) (R : List (Int × Int)) (ks : List Int) (pv : Int -> Value) (Lp : Int -> List Su) : Prop where
 cell : w.heap[p]? = some (.cells #[rv, .map (some bm), .int .i64 0] 253 (0, 0))
 regs : w.ownsRow 0 185 2 rv R.length (R.flatMap aM)
 map : bD w ek eS bm (ks.map fun u => (u, pv u))
 rows : ∀ u, u ∈ ks -> w.ownsRow 0 247 3 (pv u) (Lp u).length ((Lp u).flatMap Su.cells)
 nos : ∀ u, u ∉ ks -> Lp u = []
 disj : ∀ u, u ∈ ks -> ∀ v, v ∈ ks -> u ≠ v -> ∀ k, (pv u).ownBlock = some k -> (pv v).ownBlock ≠ some k
 wf : ∀ u, ∀ x ∈ Lp u, x.wf
 kl : ks.length <= 256 * R.length
 ll : ∀ u, (Lp u).length <= R.length
def bF (p bm : Nat) (rv : Value) (ks : List Int) (pv : Int -> Value) (k : Nat) : Prop := k = p \/ k = bm \/ rv.ownBlock = some k \/ ∃ u, u ∈ ks /\ (pv u).ownBlock = some k
section
variable {w w' : World} {p bm : Nat} {rv : Value} {R : List (Int × Int)} {ks : List Int} {pv : Int -> Value} {Lp : Int -> List Su}
theorem bM.ltp (h : bM w p bm rv R ks pv Lp) : p < w.heap.size := lt_of_block h.cell
theorem bM.kept (h : bM w p bm rv R ks pv Lp) (hk : ∀ k, bF p bm rv ks pv k -> w'.heap[k]? = w.heap[k]?) : bM w' p bm rv R ks pv Lp :=
 ⟨(hk p (.inl rfl)).trans h.cell, cF h.regs fun g hg => hk g (.inr (.inr (.inl hg))), h.map.kept (hk bm (.inr (.inl rfl))), fun u hu => cF (h.rows u hu) fun g hg => hk g (.inr (.inr (.inr ⟨u, hu, hg⟩))), h.nos, h.disj, h.wf, h.kl, h.ll⟩
theorem bM.lt (h : bM w p bm rv R ks pv Lp) (k : Nat) (hk : bF p bm rv ks pv k) : k < w.heap.size := by
 rcases hk with rfl | rfl | hk | ⟨u, hu, hk⟩
 . exact h.ltp
 . exact h.map.lt
 . exact (h.regs.lt k hk).2
 . exact ((h.rows u hu).lt k hk).2
theorem bM.ofBelow (h : bM w p bm rv R ks pv Lp) (hb : Below w.heap.size w w') : bM w' p bm rv R ks pv Lp := h.kept fun k hk => hb.block k (h.lt k hk)
theorem bM.ofOff {S : Nat -> Prop} (h : bM w p bm rv R ks pv Lp) (hb : aE S w w') (hS : ∀ k, bF p bm rv ks pv k -> ¬ S k) : bM w' p bm rv R ks pv Lp := h.kept fun k hk => hb.block k (h.lt k hk) (hS k hk)
theorem bM.page (h : bM w p bm rv R ks pv Lp) (a : Int) (a0 : 0 <= a) (a1 : a < 4294967296) :
 ∀ w', w'.heap[bm]? = w.heap[bm]? -> (Instr.lookup 251 (.map (some bm)) (.agg #[.int .u32 (a / 16777216)]) false).run prog w' = .ok (cO ks pv (a / 16777216)) w' := by
 intro w' hw
 have hm := h.map.kept hw
 have hok : eS (a / 16777216) := ⟨by omega, by omega⟩
 have hz : (zeroValue 293).run prog w' = .ok (.slice none 0 0) w' := by kernel_rfl
 unfold cO
 by_cases hu : a / 16777216 ∈ ks
 . rw [if_pos hu]
   simpa [ek] using hm.hit kP underlying251 (x := a / 16777216) (v := pv (a / 16777216)) (List.mem_map.2 ⟨_, hu, rfl⟩) false
 . rw [if_neg hu]
   have := hm.miss kP underlying251 (x := a / 16777216) (fun q hq e => by obtain ⟨v, hv, rfl⟩ := List.mem_map.1 hq; exact hu (by rw [<- e]; exact hv)) hok hz false
   simpa [ek] using this
end
theorem gJ {w : World} {p bm : Nat} {rv : Value} {R : List (Int × Int)} {ks : List Int} {pv : Int -> Value} {Lp : Int -> List Su} (h : bM w p bm rv R ks pv Lp) (a : Int) (a0 : 0 <= a) (a1 : a < 4294967296) (V : Value) (hV : cO ks pv (a / 16777216) = V) :
 ∀ d os, (Instr.lookup 251 (.map (some bm)) (.agg #[.int .u32 (a / 16777216)]) false).run prog (grow (redrawn ((w.alloc (.cells #[.int .u32 0, .int .u32 0, .nilIface] 247)).alloc (.cells #[.int .u32 0, .int .u32 0, .nilIface] 247)) d) os)
  = .ok V (grow (redrawn ((w.alloc (.cells #[.int .u32 0, .int .u32 0, .nilIface] 247)).alloc (.cells #[.int .u32 0, .int .u32 0, .nilIface] 247)) d) os) := by
 intro d os
 rw [<- hV]
 have hlt : bm < w.heap.size := h.map.lt
 refine h.page a a0 a1 _ ?_
 rw [(below_regrown _ d os).block bm (by simp; omega), aH _ _ (by simp; omega), aH _ _ hlt]
theorem iF (a : Int) (p bm : Nat) (rv : Value) (R : List (Int × Int)) (ks : List Int) (pv : Int -> Value) (Lp : Int -> List Su) (w : World) (a0 : 0 <= a) (a1 : a < 4294967296) (h : (a % 4 != 0) = false) (hB : bM w p bm rv R ks pv Lp) (hV : cO ks pv (a / 16777216) = .slice none 0 0) :
 Calls prog 171 #[.pointer (some ⟨p, 0, none⟩), .int .u32 a] w fun e w' => e = .returned (.tuple #[aZ, .int .i64 10]) /\ Below w.heap.size w w' := by
 have hg := bY
 have hf := bT
 have hc := aA hB.cell 1
 simp only [y0q, y1q, y2q] at hc
 have hlt := hB.ltp
 have hp2 : p < w.heap.size + 1 + 1 := by omega
 have hl := gJ hB a a0 a1 _ hV
 clear hV hB
 go_enter func171, ntmps171
 go_wp2_with fail
 go_step3
 go_wp2_with fail
 go_step3
 go_wp2_with fail
 refine wp_region_quiet_below (by kernel_rfl) (by kernel_rfl) ?_
 repeat (go_big_quiet_step (first
  | (go_at_call 214; exact Calls.regrown_of (gM _ _ a0 a1))))
 refine wpQuiet_nil ?_
 intro _ hw'
 obtain ⟨⟨dq, osq⟩, hw''⟩ := hw'
 subst hw''
 go_wp2_with fail
 refine wp_loop_rounds 1 ?_
 rw [rounds_succ]
 go_wp2_with fail
 rw [Exit.noGoto_ret]
 have hX : (grow (redrawn ((w.alloc (.cells #[.int .u32 0, .int .u32 0, .nilIface] 247)).alloc (.cells #[.int .u32 0, .int .u32 0, .nilIface] 247)) dq) osq).heap[w.heap.size]? = some (.cells #[.int .u32 0, .int .u32 0, .nilIface] 247 (0, 0)) :=
  aB (below_regrown _ _ _) ((aH _ _ (by simp)).trans (aD w _)) (by simp; omega)
 exact iB rfl rfl hX (trG (aO (aO (aV w) _) _) _ _)
def bQ (a : Int) (L : List Su) : Value × Int := match L.find? (fun x => bW x.b x.s a) with
 | some x => (x.val, 0)
 | none => (aZ, 10)
theorem uE (a : Int) (V : Value) (E : Int) (p bm : Nat) (rv : Value) (g cap : Nat) (R : List (Int × Int)) (ks : List Int) (pv : Int -> Value) (Lp : Int -> List Su) (L : List Su) (w : World) (a0 : 0 <= a) (a1 : a < 4294967296) (h : (a % 4 != 0) = false) (hB : bM w p bm rv R ks pv Lp) (hV : cO ks pv (a / 16777216) = .slice (some ⟨g, 0, none⟩) L.length cap) (hrow : w.ownsRow 0 247 3 (.slice (some ⟨g, 0, none⟩) L.length cap) L.length (L.flatMap Su.cells)) (hwfs : ∀ x ∈ L, x.wf) (hcap : L.length <= cap) (hmax : cap <= 9223372036854775807) (hVE : bQ a L = (V, E)) :
 Calls prog 171 #[.pointer (some ⟨p, 0, none⟩), .int .u32 a] w fun e w' => e = .returned (.tuple #[V, .int .i64 E]) /\ Below w.heap.size w w' := by
 have HVE := Hd hVE
 clear hVE
 have hg := bY
 have hf := bT
 have hc := aA hB.cell 1
 simp only [y0q, y1q, y2q] at hc
 have hlt := hB.ltp
 have hp2 : p < w.heap.size + 1 + 1 := by omega
 have hl := gJ hB a a0 (by omega) _ hV
 have HRW := Hd hrow
 have HWF := Hd hwfs
 clear hB hV hrow hwfs
 go_enter func171, ntmps171
 go_wp2_with fail
 go_step3
 go_wp2_with fail
 go_step3
 go_wp2_with fail
 refine wp_region_quiet_below (by kernel_rfl) (by kernel_rfl) ?_
 repeat (go_big_quiet_step (first
  | (go_at_call 214; exact Calls.regrown_of (gM _ _ a0 (by omega)))))
 refine wpQuiet_nil ?_
 intro _ hw'
 obtain ⟨⟨dq, osq⟩, hw''⟩ := hw'
 subst hw''
 clear hl hg hf
 go_wp2_with fail
 go_loopw [7, 26] (fun e i wr => ∃ k : Nat, k <= L.length /\ e = .int .i64 10 /\ i = .int .i64 k /\ L.find? (fun x => bW x.b x.s a) = (L.drop k).find? (fun x => bW x.b x.s a) /\
  Below (w.heap.size + 2) ((w.alloc (.cells #[.int .u32 0, .int .u32 0, .nilIface] 247)).alloc (.cells #[.int .u32 0, .int .u32 0, .nilIface] 247)) wr) (fun _ i _ => L.length - (intOf i).toNat)
 case atStart => exact ⟨0, by omega, rfl, rfl, rfl, (below_regrown _ _ _).mono (by simp)⟩
 case round =>
  obtain ⟨k, hk, rfl, rfl, hfd, hbel⟩ := hrel
  have HF := Hd hfd
  clear hfd
  have hX : wr.heap[w.heap.size]? = some (.cells #[.int .u32 0, .int .u32 0, .nilIface] 247 (0, 0)) :=
   aB hbel ((aH _ _ (by simp)).trans (aD w _)) (by omega)
  have hX1 : wr.heap[w.heap.size + 1]? = some (.cells #[.int .u32 0, .int .u32 0, .nilIface] 247 (0, 0)) :=
   aB hbel (by simpa using aD (w.alloc (.cells #[.int .u32 0, .int .u32 0, .nilIface] 247)) (.cells #[.int .u32 0, .int .u32 0, .nilIface] 247)) (by omega)
  have hbw : Below w.heap.size w wr := (aO (aO (aV w) _) _).trans (hbel.mono (Nat.le_add_right _ _))
  have hsz := lt_of_block hX1
  by_cases hlt : k < L.length
  . obtain ⟨x, hx⟩ : ∃ x, L[k]? = some x := ⟨L[k], List.getElem?_eq_getElem hlt⟩
    have hgb : g < w.heap.size := (HRW.out.lt g rfl).2
    have hr0 := (hbw.cell (p := ⟨g, k * 3 + 0, none⟩) hgb).trans (fO (f := Su.cells) (n := 3) (fun _ => rfl) HRW.out rfl hx 0 (by decide))
    have hr1 := (hbw.cell (p := ⟨g, k * 3 + 1, none⟩) hgb).trans (fO (f := Su.cells) (n := 3) (fun _ => rfl) HRW.out rfl hx 1 (by decide))
    have hr2 := (hbw.cell (p := ⟨g, k * 3 + 2, none⟩) hgb).trans (fO (f := Su.cells) (n := 3) (fun _ => rfl) HRW.out rfl hx 2 (by decide))
    simp only [Nat.add_zero, Su.cells, Su.d, y1q, y2q] at hr0 hr1 hr2
    have hwf := HWF.out x (List.mem_of_getElem? hx)
    obtain ⟨xb, xs, xt, xv⟩ := x
    obtain ⟨q0, q1, q2⟩ := hwf
    simp only at q0 q1 q2 hr0 hr1 hr2
    have hdrop : L.drop k = ⟨xb, xs, xt, xv⟩ :: L.drop (k + 1) := by
     rw [List.drop_eq_getElem_cons hlt]; congr 1
     exact (List.getElem?_eq_some_iff.1 hx).2
    have hX0 := Hd hX
    have hX2 := Hd hX1
    have hD := Hd hdrop
    clear hX hX1 hx hdrop
    cases hh : bW xb xs a
    . have HH := Hd hh
      clear hh
      go_wp2_with (go_at_call 215; refine (uN xb xs a false _ q0 (by omega) (by omega) (by omega) a0 (by omega) HH.out).mono ?_; rintro e w1 ⟨rfl, hb1⟩)
      go_roundw
      case rel =>
       refine ⟨k + 1, by omega, rfl, by go_num, ?_, hbel.trans (((Below.refl _ _).alloc (by omega) _).trans (hb1.mono (by simp; omega)))⟩
       rw [HF.out, hD.out, List.find?_cons, HH.out]
      case measure => simp [intOf]; omega
    . have HH := Hd hh
      clear hh
      obtain ⟨rfl, rfl⟩ : Value.agg #[.int .u32 xb, .int .u32 xs, .iface xt xv] = V /\ 0 = E := by
       have h1 := HVE.out
       unfold bQ at h1
       rw [HF.out, hD.out, List.find?_cons, HH.out] at h1
       exact Prod.mk.inj h1
      go_wp2_with fail
      refine (uN xb xs a true _ q0 (by omega) (by omega) (by omega) a0 (by omega) HH.out).mono ?_
      rintro e w1 ⟨rfl, hb1⟩
      have hS := aB hb1 (aD wr _) (by simp)
      have hX3 := aB hb1 ((aH _ _ (by omega)).trans hX2.out) (by simp; omega)
      have hX4 := aB hb1 ((aH _ _ (by omega)).trans hX0.out) (by simp; omega)
      have hs0 := aA hS 0
      have hs1 := aA hS 1
      have hs2 := aA hS 2
      have hx0 := aA hX3 0
      have hx1 := aA hX3 1
      have hx2 := aA hX3 2
      have hy0 := aA hX4 0
      have hy1 := aA hX4 1
      have hy2 := aA hX4 2
      simp only [y0q, y1q, y2q] at hs0 hs1 hs2 hx0 hx1 hx2 hy0 hy1 hy2
      have hfx0 := aG hX3 0
      have hfx1 := aG hX3 1
      have hfx2 := aG hX3 2
      have hfy0 := aG hX4 0
      have hfy1 := aG hX4 1
      have hfy2 := aG hX4 2
      have hbw1 : Below w.heap.size w w1 := tr (aO hbw _) hb1
      have hS' := Hd hS
      have hX3' := Hd hX3
      have hX4' := Hd hX4
      clear hS hX3 hX4 hb1
      go_wp2_with fail
      rw [Exit.noGoto_ret]
      exact iB rfl rfl (by rw [Below.heap_setCell _ _ _ _ (by simp), Below.heap_setCell _ _ _ _ (by simp), Below.heap_setCell _ _ _ _ (by simp)]; exact hX4'.out) (((hbw1.setCell (by simp) _).setCell (by simp) _).setCell (by simp) _)
  . have hx0 := aA hX1 0
    have hx1 := aA hX1 1
    have hx2 := aA hX1 2
    have hy0 := aA hX 0
    have hy1 := aA hX 1
    have hy2 := aA hX 2
    simp only [y0q, y1q, y2q] at hx0 hx1 hx2 hy0 hy1 hy2
    have hf0 := aG hX 0
    have hf1 := aG hX 1
    have hf2 := aG hX 2
    have hX0 := Hd hX
    clear hX hX1
    go_wp2_with fail
    rw [Exit.noGoto_ret]
    have : L.drop k = [] := List.drop_of_length_le (by omega)
    obtain ⟨rfl, rfl⟩ : aZ = V /\ 10 = E := by
     have h1 := HVE.out
     unfold bQ at h1
     rw [HF.out, this] at h1
     exact Prod.mk.inj h1
    exact iB rfl rfl hX0.out hbw
theorem xI (a : Int) (V : Value) (E : Int) (p bm : Nat) (rv : Value) (R : List (Int × Int)) (ks : List Int) (pv : Int -> Value) (Lp : Int -> List Su) (w : World) (a0 : 0 <= a) (a1 : a < 4294967296) (h : (a % 4 != 0) = false) (hB : bM w p bm rv R ks pv Lp) (hVE : bQ a (Lp (a / 16777216)) = (V, E)) :
 Calls prog 171 #[.pointer (some ⟨p, 0, none⟩), .int .u32 a] w fun e w' => e = .returned (.tuple #[V, .int .i64 E]) /\ Below w.heap.size w w' := by
 have hwfs := hB.wf (a / 16777216)
 by_cases hu : a / 16777216 ∈ ks
 . have hrow := hB.rows _ hu
   have hV : cO ks pv (a / 16777216) = pv (a / 16777216) := if_pos hu
   generalize Lp (a / 16777216) = L at *
   rcases eF hrow with ⟨h1, h2⟩ | ⟨g, cap, h1, h2, h3, _⟩
   . have : L = [] := List.eq_nil_of_length_eq_zero h2
     subst this
     obtain ⟨rfl, rfl⟩ : aZ = V /\ 10 = E := by unfold bQ at hVE; exact Prod.mk.inj hVE
     exact iF a p bm rv R ks pv Lp w a0 a1 h hB (hV.trans h1)
   . rw [h1] at hrow hV
     unfold maxLen at h3
     exact uE a V E p bm rv g cap R ks pv Lp L w a0 a1 h hB hV hrow hwfs h2 (by omega) hVE
 . rw [hB.nos _ hu] at hVE
   obtain ⟨rfl, rfl⟩ : aZ = V /\ 10 = E := by unfold bQ at hVE; exact Prod.mk.inj hVE
   exact iF a p bm rv R ks pv Lp w a0 a1 h hB (if_neg hu)
end Go.Proofs.YtealhichdbimlaaGreat.B
