/- A part of the proof of a law of layer 12: ax. -/
import Derived.Test.YtaohacadochldaaGreatZNaw
import Derived.Test.YtaohacadochldaaGreatZNO
import Derived.OwnWalk
set_option linter.unusedVariables false
set_option linter.unusedSimpArgs false
set_option maxHeartbeats 12800000
set_option maxRecDepth 100000
namespace Go.Proofs.YtaohacadochldaaGreat.B
open Go.Proofs.Tryz
open List renaming getElem?_toArray -> y0q
open Go.ChangeShapes Go.WideShapes Go.RowKit Go.Sort
def acV (p p2 : Pt) (V : Int) : Int := if p.dn = true then 0 else if p.pass.dn = true then 0 else if p2.dn = true then 0 else V
def acE (p p2 : Pt) (E : Int) : Int := if p.dn = true then 13 else if p.pass.dn = true then 13 else if p2.dn = true then 13 else E
def acS (p p2 : Pt) : Pt := if p.dn = true then p else if p.pass.dn = true then p.pass else p2
theorem aY.off {w w' : World} {q : Nat} {B : Bp} {p : Pt} {gv : Value} (L : aY q B p gv w w') : aD (fun k => k = q \/ B.own k) w w' := by obtain ⟨_, _, h, _⟩ := L; exact h
theorem jE {w w' : World} {q : Nat} {B : Bp} {p : Pt} {gv : Value} (H : bB w q B p gv) (ho : aD (fun k => k = q \/ B.own k) w w') {k : Nat} {cs : Array Value} {T : TypeId} {f : Nat × Nat} (h : w.heap[k]? = some (.cells cs T f)) (h1 : nL (T + 1) = false) (h2 : (T == tPt) = false) : w'.heap[k]? = some (.cells cs T f) :=
 ho.at h fun e => by
  rcases e with e | e
  . exact aC h H.cell h2 e
  . have := H.bd.ownKd e; rw [bA h, h1] at this; cases this
theorem aC7 (cv : Value) (q : Nat) (B : Bp) (p : Pt) (gv : Value) (m : Nat) (w : World) (H : bB w q B p gv) (ok : p.ok m) (hm : m < 4294967290) (h0 : p.dn = true) :
 Calls prog 67 #[.pointer (some ⟨q, 0, none⟩), cv] w fun e w' => e = .returned (.tuple #[.int .u32 0, .int .i64 13]) /\ aY q B p gv w w' := by
 have HD := Hd (mE q B p gv w H ok.td ok.se)
 rw [h0] at HD
 have HH := Hd H
 clear ok hm H h0
 go_enter func67, ntmps67
 go_wp2_with fail
 refine (HD.out).mono ?_
 rintro e w1 ⟨rfl, hb⟩
 have HX := Hd (HH.out.left hb)
 clear hb
 go_wp2_with fail
 go_ret2
 exact ⟨rfl, HX.out⟩
theorem aC8 (cv : Value) (q : Nat) (B : Bp) (p : Pt) (gv : Value) (m : Nat) (w : World) (H : bB w q B p gv) (ok : p.ok m) (hm : m < 4294967290) (h0 : p.dn = false) (h1 : p.pass.dn = true) :
 Calls prog 67 #[.pointer (some ⟨q, 0, none⟩), cv] w fun e w' => e = .returned (.tuple #[.int .u32 0, .int .i64 13]) /\ aY q B p.pass gv w w' := by
 have HD := Hd (mE q B p gv w H ok.td ok.se)
 rw [h0] at HD
 have HP := Hd (fun w' h => aAo q B p gv m w' h ok hm)
 have hpo := Pt.pass_ok ok H.bd.still hm
 have HD2 := Hd (fun w' ev' (h : bB w' q { B with ev := ev' } p.pass gv) => mE q { B with ev := ev' } p.pass gv w' h hpo.td hpo.se)
 rw [h1] at HD2
 have HH := Hd H
 clear hpo ok hm H h0 h1
 go_enter func67, ntmps67
 go_wp2_with fail
 refine (HD.out).mono ?_
 rintro e w1 ⟨rfl, hb⟩
 have HO := Hd (aD.ofBelow (S := fun k => k = q \/ B.own k) hb)
 have HH1 := Hd (HH.out.below hb)
 clear hb HD
 go_wp2_with fail
 refine (HP.out _ HH1.out).mono ?_
 rintro e w2 ⟨rfl, hL⟩
 have HL := Hd (aY.from HO.out hL)
 clear hL HH1 HO HP
 go_wp2_with fail
 obtain ⟨ev2, h2, ho2, he2⟩ := HL.out
 refine (HD2.out _ _ h2).mono ?_
 rintro e w3 ⟨rfl, hb⟩
 have HX := Hd (HL.out.below hb)
 have HH3 := Hd (h2.below hb)
 have HO3 := Hd (ho2.trans (aD.ofBelow hb))
 have HE3 := Hd he2
 clear hb h2 ho2 he2 HD2 HL
 go_wp2_with fail
 go_ret2
 exact ⟨rfl, HX.out⟩
theorem aBp (q : Nat) (B : Bp) (p : Pt) (gv : Value) (m : Nat) (x y z : Nat) (V E : Int) (p2 : Pt) (w : World) (H : bB w q B p gv) (ok : p.ok m) (hm : m < 4294967290)
 (H2 : p.dn = false -> p.pass.dn = false -> p2.x.told /\ p2.se <= p2.x.es.length)
 (HF : Hid (∀ w1 ev1, p.dn = false -> p.pass.dn = false -> aD (fun k => k = q \/ B.own k) w w1 -> bB w1 q { B with ev := ev1 } p.pass gv -> Calls prog 68 #[.pointer (some ⟨x, 0, none⟩), .pointer (some ⟨y, 0, none⟩), .pointer (some ⟨z, 0, none⟩)] w1 fun e w' => e = .returned (.tuple #[.int .u32 V, .int .i64 E]) /\ aY q { B with ev := ev1 } p2 gv w1 w')) (D : Bool) (h0 : p.dn = false) (h1 : p.pass.dn = false) (h2 : p2.dn = D) :
 Calls prog 67 #[.pointer (some ⟨q, 0, none⟩), .func (.func 68) #[] #[.pointer (some ⟨x, 0, none⟩), .pointer (some ⟨y, 0, none⟩), .pointer (some ⟨z, 0, none⟩)]] w fun e w' => e = .returned (.tuple #[.int .u32 (cond D 0 V), .int .i64 (cond D 13 E)]) /\ aY q B p2 gv w w' := by
 cases D
 all_goals
  have HD := Hd (mE q B p gv w H ok.td ok.se)
  rw [h0] at HD
  have HP := Hd (fun w' h => aAo q B p gv m w' h ok hm)
  have hpo := Pt.pass_ok ok H.bd.still hm
  have HD2 := Hd (fun w' ev' (h : bB w' q { B with ev := ev' } p.pass gv) => mE q { B with ev := ev' } p.pass gv w' h hpo.td hpo.se)
  rw [h1] at HD2
  have HH := Hd H
  have hq2 := H2 h0 h1
  have HFF := Hd (fun w1 ev1 => HF.out w1 ev1 h0 h1)
  have HD3 := Hd (fun w' C (h : bB w' q C p2 gv) => mE q C p2 gv w' h hq2.1 hq2.2)
  rw [h2] at HD3
  clear H2 HF hq2 h2
  clear hpo ok hm H h0 h1
  go_enter func67, ntmps67
  go_wp2_with fail
  refine (HD.out).mono ?_
  rintro e w1 ⟨rfl, hb⟩
  have HO := Hd (aD.ofBelow (S := fun k => k = q \/ B.own k) hb)
  have HH1 := Hd (HH.out.below hb)
  clear hb HD
  go_wp2_with fail
  refine (HP.out _ HH1.out).mono ?_
  rintro e w2 ⟨rfl, hL⟩
  have HL := Hd (aY.from HO.out hL)
  clear hL HH1 HO HP
  go_wp2_with fail
  obtain ⟨ev2, h2, ho2, he2⟩ := HL.out
  refine (HD2.out _ _ h2).mono ?_
  rintro e w3 ⟨rfl, hb⟩
  have HX := Hd (HL.out.below hb)
  have HH3 := Hd (h2.below hb)
  have HO3 := Hd (ho2.trans (aD.ofBelow hb))
  have HE3 := Hd he2
  clear hb h2 ho2 he2 HD2 HL
  go_wp2_with fail
  refine (HFF.out _ ev2 HO3.out HH3.out).mono ?_
  rintro e w4 ⟨rfl, hL⟩
  obtain ⟨ev4, h4, ho4, he4⟩ := hL
  have HX4 := Hd (aY.andThen HO3.out HE3.out ⟨ev4, h4, ho4, he4⟩)
  have HH4 := Hd h4
  clear h4 ho4 he4 HH3 HFF HX HO3 HE3
  go_wp2_with fail
  refine (HD3.out _ _ HH4.out).mono ?_
  rintro e w5 ⟨rfl, hb⟩
  have HX5 := Hd (HX4.out.below hb)
  clear hb HX4 HH4 HD3
  go_wp2_with fail
  go_ret2
  exact ⟨rfl, HX5.out⟩
theorem aC9 (q : Nat) (B : Bp) (p : Pt) (gv : Value) (m : Nat) (x y z : Nat) (V E : Int) (p2 : Pt) (w : World) (H : bB w q B p gv) (ok : p.ok m) (hm : m < 4294967290)
 (H2 : p.dn = false -> p.pass.dn = false -> p2.x.told /\ p2.se <= p2.x.es.length)
 (HF : Hid (∀ w1 ev1, p.dn = false -> p.pass.dn = false -> aD (fun k => k = q \/ B.own k) w w1 -> bB w1 q { B with ev := ev1 } p.pass gv -> Calls prog 68 #[.pointer (some ⟨x, 0, none⟩), .pointer (some ⟨y, 0, none⟩), .pointer (some ⟨z, 0, none⟩)] w1 fun e w' => e = .returned (.tuple #[.int .u32 V, .int .i64 E]) /\ aY q { B with ev := ev1 } p2 gv w1 w')) :
 Calls prog 67 #[.pointer (some ⟨q, 0, none⟩), .func (.func 68) #[] #[.pointer (some ⟨x, 0, none⟩), .pointer (some ⟨y, 0, none⟩), .pointer (some ⟨z, 0, none⟩)]] w fun e w' => e = .returned (.tuple #[.int .u32 (acV p p2 V), .int .i64 (acE p p2 E)]) /\ aY q B (acS p p2) gv w w' := by
 unfold acV acE acS
 cases h0 : p.dn
 . cases h1 : p.pass.dn
   . have := aBp q B p gv m x y z V E p2 w H ok hm H2 HF _ h0 h1 rfl
     cases h2 : p2.dn <;> rw [h2] at this <;> exact this
   . exact aC8 _ q B p gv m w H ok hm h0 h1
 . exact aC7 _ q B p gv m w H ok hm h0
abbrev tPp : TypeId := 25
def bxP (q : Nat) : Obj := .cells #[.pointer (some ⟨q, 0, none⟩)] tPp (0, 0)
def rM (a : Int) : Obj := .cells #[.int .u32 a] tU (0, 0)
theorem aAG (q : Nat) (C : Bp) (p : Pt) (gv : Value) (x y z : Nat) (a v : Int) (w : World) (H : bB w q C p gv) (hx : w.heap[x]? = some (bxP q)) (hy : w.heap[y]? = some (rM a)) (hz : w.heap[z]? = some (rM v)) (a0 : 0 <= a) (a1 : a < 4294967296) (v0 : 0 <= v) (v1 : v < 4294967296) (hl : p.x.es.length < 4294967296) :
 Calls prog 68 #[.pointer (some ⟨x, 0, none⟩), .pointer (some ⟨y, 0, none⟩), .pointer (some ⟨z, 0, none⟩)] w fun e w' => e = .returned (.tuple #[.int .u32 0, .int .i64 (Bx.ste C.n C.c a)]) /\ aY q C (p.put C.n C.c a v) gv w w' := by
 have HL := Hd (show ∀ w', aS w' C p.x -> _ from fun w' h => rL C p.x a v w' h a0 a1 v0 v1 hl)
 have HH := Hd H
 have cx := aA hx 0
 have cy := aA hy 0
 have cz := aA hz 0
 simp only [y0q, List.getElem?_cons_zero] at cx cy cz
 have hlx := lt_of_block hx
 have hly := lt_of_block hy
 have hlz := lt_of_block hz
 have c3 := H.c3
 have hq := H.lt
 have hg := bP
 clear H hx hy hz a0 a1 v0 v1 hl
 go_enter func68, ntmps68
 go_upto_region 1 with (fail)
 refine fQ 6 (by kernel_rfl) (by kernel_rfl) (by intro _ _ d _ _ h; cases d <;> exact h) ?_
 simp only [List.take_succ_cons, List.take_zero, List.drop_succ_cons, List.drop_zero]
 repeat (go_big_quiet_step (fail))
 refine wpQuiet_nil ?_
 intro _ hw'
 obtain ⟨⟨dq, osq⟩, hw''⟩ := hw'
 subst hw''
 have hb := below_regrown w dq osq
 have HH1 := Hd (HH.out.below hb)
 have HO := Hd (aD.ofBelow (S := fun k => k = q \/ C.own k) hb)
 clear hb hg cx cy cz c3
 dsimp only at HH1 HO ⊢
 generalize grow (redrawn w dq) osq = W at *
 go_wp2_with (go_at_call 26; refine (HL.out _ HH1.out.bd).mono ?_; rintro e w2 ⟨rfl, hL⟩; have HX := Hd (aY.from HO.out (HH1.out.board hL)); clear hL)
 go_ret2
 exact ⟨rfl, HX.out⟩
theorem nY (n c : Nat) (p : Pt) (a v : Int) : acE p (p.pass.put n c a v) (Bx.ste n c a) = p.ste n c a v /\ acS p (p.pass.put n c a v) = p.stp n c a v := by
 unfold acE acS Pt.ste Pt.stp
 exact ⟨rfl, rfl⟩
theorem aBq (q : Nat) (B : Bp) (p : Pt) (gv : Value) (m : Nat) (a v : Int) (w : World) (H : bB w q B p gv) (ok : p.ok m) (hm : m < 4294967290) (a0 : 0 <= a) (a1 : a < 4294967296) (v0 : 0 <= v) (v1 : v < 4294967296) :
 Calls prog 30 #[.pointer (some ⟨q, 0, none⟩), .int .u32 a, .int .u32 v] w fun e w' => e = .returned (.int .i64 (p.ste B.n B.c a v)) /\ aY q B (p.stp B.n B.c a v) gv w w' := by
 have hb := aO (aO (aO (aT w) (bxP q)) (rM a)) (rM v)
 have gb := Pt.gp_bounds ok.gs
 have hps := (Bx.tick_ok H.bd.ok H.bd.still (N := p.gp) gb.1 (by omega)).2
 have hx := uS w (bxP q) (rM a) (rM v)
 have hy := uT w (bxP q) (rM a) (rM v)
 have hz := uU w (bxP q) (rM a) (rM v)
 have HH := H.below hb
 have HA := Hd (aC9 q B p gv m w.heap.size (w.heap.size + 1) (w.heap.size + 2) 0 (Bx.ste B.n B.c a) (p.pass.put B.n B.c a v) _ HH ok hm
  (fun h0 h1 => have h2 := Pt.stored_ok (n := B.n) (c := B.c) ok HH.bd.still hps hm h0 h1 a v; ⟨h2.td, h2.se⟩)
  (Hd fun w1 ev1 h0 h1 ho h => aAG q { B with ev := ev1 } p.pass gv _ _ _ a v w1 h (jE HH ho hx (by decide) rfl) (jE HH ho hy (by decide) rfl) (jE HH ho hz (by decide) rfl) a0 a1 v0 v1 (by have := Pt.passed_ok ok HH.bd.still hm h0 h1; omega)))
 rw [(nY B.n B.c p a v).1, (nY B.n B.c p a v).2] at HA
 have HO := Hd (aD.ofBelow (S := fun k => k = q \/ B.own k) hb)
 have cx := aA hx 0
 simp only [y0q, List.getElem?_cons_zero] at cx
 clear HH hps gb H ok hm a0 a1 v0 v1 hb hx hy hz
 go_enter func30, ntmps30
 go_upto_region 1 with (fail)
 rw [show Obj.cells #[.pointer (some ⟨q, 0, none⟩)] 25 (0, 0) = bxP q from rfl, show Obj.cells #[.int .u32 a] 26 (0, 0) = rM a from rfl, show Obj.cells #[.int .u32 v] 26 (0, 0) = rM v from rfl]
 generalize ((w.alloc (bxP q)).alloc (rM a)).alloc (rM v) = W at *
 go_wp2_with fail
 refine (HA.out).mono ?_
 rintro e w1 ⟨rfl, hL⟩
 have HX := Hd (aY.from HO.out hL)
 clear hL
 go_wp2_with fail
 go_ret
 exact ⟨rfl, HX.out⟩
def Kq (w w' : World) : Prop := ∀ (k : Nat) (cs : Array Value) (T : TypeId) (f : Nat × Nat), w.heap[k]? = some (.cells cs T f) -> nL (T + 1) = false -> (T == tPt) = false -> w'.heap[k]? = some (.cells cs T f)
theorem Kq.refl (w : World) : Kq w w := fun _ _ _ _ h _ _ => h
theorem Kq.trans {a b c : World} (h : Kq a b) (g : Kq b c) : Kq a c := fun k cs T f hk hT hP => g k cs T f (h k cs T f hk hT hP) hT hP
theorem Kq.ofBelow {w w' : World} (hb : Below w.heap.size w w') : Kq w w' := fun _ _ _ _ h _ _ => aB hb h (lt_of_block h)
theorem Kq.ofOff {w w' : World} {r : Nat} {cs : Array Value} {T : TypeId} {f : Nat × Nat} (hr : w.heap[r]? = some (.cells cs T f)) (ho : aD (· = r) w w') (hT : (T == tPt) = true \/ nL (T + 1) = true) : Kq w w' := fun k cs' T' f' hk h1 h2 =>
 ho.at hk fun e => by
  rw [e, hr] at hk
  cases hk
  rcases hT with h | h
  . rw [h2] at h; cases h
  . rw [h1] at h; cases h
structure Lp (s q : Nat) (B C : Bp) (p : Pt) (gv : Value) (w w' : World) : Prop where
 h : bB w' q C p gv
 nw : C.new s
 e : C.b = B.b
 n : C.n = B.n
 c : C.c = B.c
 d : C.div = B.div
 lo : Below s w w'
 kq : Kq w w'
section
variable {w w' w'' : World} {s q : Nat} {B C : Bp} {p p0 : Pt} {gv gv0 : Value}
theorem aY.kq (H : bB w q B p0 gv0) (L : aY q B p gv w w') : Kq w w' := fun k cs T f hk hT hP => L.off.at hk fun e => by
 rcases e with e | e
 . rw [e, H.cell] at hk; cases hk; cases hP
 . have := H.bd.ownKd e; rw [bA hk, hT] at this; cases this
theorem kK.kq {t : Nat} {v : Value} {gs : List Int} (h : kK t w v gs) (K : Kq w w') (lo : Below t w w') : kK t w' v gs := h.keep lo.size fun k hk hg => by
 rcases hg with hg | hg
 . exact lo.block k hg
 . unfold kd at hg
   cases e : w.heap[k]? with
   | none => rw [e] at hg; exact absurd (show gK 0 = true from hg) (by decide)
   | some o =>
     rw [e] at hg
     cases o with
     | cells cs T f =>
       have h1 := mV hg
       exact K k cs T f e h1.1 (by
        cases h2 : (T == tPt)
        . rfl
        . exact absurd (by rw [beq_iff_eq.1 h2]) h1.2.2)
     | _ => exact absurd (show gK 0 = true from hg) (by decide)
end
abbrev tW3 : TypeId := 70
def oW3 (d : Int) : Obj := .cells #[.int .u32 4294967295, .int .u32 (hi d), .int .u32 (lo d)] tW3 (0, 0)
theorem sG (d : Int) (w : World) (d0 : 0 <= d) (d1 : d < 18446744073709551616) :
 Calls prog 24 #[.int .u64 d] w fun e w' => e = .returned (.agg #[.int .u32 4294967295, .int .u32 (hi d), .int .u32 (lo d)]) /\ Below w.heap.size w w' := by
 have HN := Hd (fun w' => Lo 18446744073709551615 w' (by decide) (by decide))
 rw [show lo 18446744073709551615 = 4294967295 from by decide] at HN
 have HH := Hd (fun w' => Hi d w' d0 d1)
 have HL := Hd (fun w' => Lo d w' d0 d1)
 have hb0 := aO (aT w) (.cells #[.int .u32 0, .int .u32 0, .int .u32 0] tW3 (0, 0))
 have hX := aF w (.cells #[.int .u32 0, .int .u32 0, .int .u32 0] tW3 (0, 0))
 have HB := Hd hb0
 have HX := Hd hX
 clear d0 d1 hb0 hX
 go_enter func24, ntmps24
 go_upto_region 1 with (fail)
 rw [show Obj.cells #[.int .u32 0, .int .u32 0, .int .u32 0] 70 (0, 0) = .cells #[.int .u32 0, .int .u32 0, .int .u32 0] tW3 (0, 0) from rfl]
 generalize w.alloc (.cells #[.int .u32 0, .int .u32 0, .int .u32 0] tW3 (0, 0)) = W at *
 have f0 := aH HX.out 0
 have f1 := aH HX.out 1
 have f2 := aH HX.out 2
 have hl := lt_of_block HX.out
 have g0 := aA HX.out 0
 have g1 := aA HX.out 1
 have g2 := aA HX.out 2
 simp only [y0q, List.getElem?_cons_zero, List.getElem?_cons_succ] at g0 g1 g2
 go_wp2_with (first
  | (go_at_call 55; refine (HN.out _).mono ?_; rintro e w1 ⟨rfl, rfl⟩; clear HN)
  | (go_at_call 56; refine (HH.out _).mono ?_; rintro e w1 ⟨rfl, rfl⟩; clear HH)
  | (go_at_call 55; refine (HL.out _).mono ?_; rintro e w1 ⟨rfl, rfl⟩; clear HL))
 have h1 := aK (aK (aK HX.out 0 (.int .u32 4294967295)) 1 (.int .u32 (hi d))) 2 (.int .u32 (lo d))
 refine bodyPost_ret (v := .agg #[.int .u32 4294967295, .int .u32 (hi d), .int .u32 (lo d)]) ?_ rfl ⟨rfl, ((HB.out.setCell (p := ⟨w.heap.size, 0, none⟩) (Nat.le_refl _) _).setCell (p := ⟨w.heap.size, 1, none⟩) (Nat.le_refl _) _).setCell (p := ⟨w.heap.size, 2, none⟩) (Nat.le_refl _) _⟩
 exact bL rfl _ _ w.heap.size 0 _ [.int .u32 4294967295, .int .u32 (hi d), .int .u32 (lo d)] rfl h1 underlying70 rfl (by kernel_rfl) (bK _)
structure pY (q wb : Nat) (B : Bp) (gv : Value) (d : Int) (w0 : World) (p : Pt) (w : World) : Prop where
 L : aY q B p gv w0 w
 K : w.heap[wb]? = some (oW3 d)
section
variable {q wb m h : Nat} {B : Bp} {p : Pt} {gv : Value} {d : Int} {w0 w : World}
theorem pY.sto (A : pY q wb B gv d w0 p w) (ok : p.ok m) (hm : m < 4294967290) {a v : Int} (a0 : 0 <= a) (a1 : a < 4294967296) (v0 : 0 <= v) (v1 : v < 4294967296) :
 Calls prog 30 #[.pointer (some ⟨q, 0, none⟩), .int .u32 a, .int .u32 v] w fun e w' => e = .returned (.int .i64 (p.ste B.n B.c a v)) /\ pY q wb B gv d w0 (p.stp B.n B.c a v) w' := by
 obtain ⟨⟨ev', h1, ho, he⟩, K⟩ := A
 refine (aBq q { B with ev := ev' } p gv m a v w h1 ok hm a0 a1 v0 v1).mono ?_
 rintro e w' ⟨rfl, hL⟩
 exact ⟨rfl, aY.andThen ho he hL, aY.kq h1 hL _ _ _ _ K (by decide) rfl⟩
theorem pY.c (A : pY q wb B gv d w0 p w) (j : Nat) (v : Value) (hv : [Value.int .u32 4294967295, .int .u32 (hi d), .int .u32 (lo d)][j]? = some v) : w.cell? ⟨wb, j, none⟩ = some v := by
 rw [aA A.K, y0q]
 exact hv
theorem pY.lt (A : pY q wb B gv d w0 p w) : wb < w.heap.size := lt_of_block A.K
end
abbrev tSh : TypeId := 86
def shO (q h : Nat) (l : Int) : Obj := .cells #[.pointer (some ⟨q, 0, none⟩), .int .i64 h, .int .u64 l] tSh (0, 0)
def fT (w : World) (c q h : Nat) (l : Int) : Prop := w.heap[c]? = some (shO q h l)
theorem fT.lt {w : World} {c q h : Nat} {l : Int} (K : fT w c q h l) : c < w.heap.size := lt_of_block K
theorem fT.below {w w' : World} {c q h : Nat} {l : Int} (K : fT w c q h l) (hb : Below w.heap.size w w') : fT w' c q h l := aB hb K (lt_of_block K)
theorem fT.c0 {w : World} {c q h : Nat} {l : Int} (K : fT w c q h l) : w.cell? ⟨c, 0, none⟩ = some (.pointer (some ⟨q, 0, none⟩)) := by have := aA K 0; simpa using this
theorem fT.c1 {w : World} {c q h : Nat} {l : Int} (K : fT w c q h l) : w.cell? ⟨c, 1, none⟩ = some (.int .i64 h) := by have := aA K 1; simpa using this
theorem fT.c2 {w : World} {c q h : Nat} {l : Int} (K : fT w c q h l) : w.cell? ⟨c, 2, none⟩ = some (.int .u64 l) := by have := aA K 2; simpa using this
theorem fT.set {w : World} {c q h : Nat} {l : Int} (K : fT w c q h l) (l' : Int) : fT (w.setCell ⟨c, 2, none⟩ (.int .u64 l')) c q h l' := by
 unfold fT
 rw [aK K]
 rfl
theorem yI (h : Int) (w : World) : Calls prog 8 #[.pointer none, .int .i64 h] w fun e w' => e = .returned (.tuple #[.pointer none, .int .i64 1]) /\ w = w' := by
 go_enter func8, ntmps8
 exact dZ
section
variable {c q h : Nat} {l : Int} {w : World}
end
section
variable {w : World}
theorem rC : Calls prog 16 #[.pointer none] w fun e w' => e = .returned (.int .u64 18446744073709551615) /\ w = w' := by
 go_enter func16, ntmps16
 exact aI
theorem tZ : Calls prog 10 #[.pointer none] w fun e w' => e = .returned (.int .i64 (-1)) /\ w = w' := by
 go_enter func10, ntmps10
 exact aI
theorem uA : Calls prog 14 #[.pointer none] w fun e w' => e = .returned (.tuple #[]) /\ w = w' := by
 go_enter func14, ntmps14
 go_wp2_with fail
 refine bodyPost_ret (v := .tuple #[]) ?_ rfl ⟨rfl, rfl⟩
 simp [results, results14, go_sem]
theorem nQ : Calls prog 17 #[.pointer none] w fun e w' => e = .returned (.bool false) /\ Below w.heap.size w w' := by
 go_enter func17, ntmps17
 go_upto_region 1 with (fail)
 refine wp_region_quiet_below (by kernel_rfl) (by kernel_rfl) ?_
 repeat (go_big_quiet_step (fail))
 exact lH
theorem pH (d : Int) : Calls prog 12 #[.pointer none, .int .u64 d] w fun e w' => e = .returned (.int .i64 1) /\ w = w' := by
 go_enter func12, ntmps12
 exact aI
theorem pI : Calls prog 11 #[.pointer none] w fun e w' => e = .returned (.int .i64 1) /\ w = w' := by
 go_enter func11, ntmps11
 go_wp2_with fail
 refine (pH 18446744073709551615).mono ?_
 rintro e w1 ⟨rfl, rfl⟩
 exact aI
end
theorem aCq (w : World) : (Op.equalIn 10000 70 (.agg #[.int .u32 4294967295, .int .u32 1, .int .u32 5]) (.agg #[.int .u32 4294967295, .int .u32 1, .int .u32 5])).run prog w = .ok true w := by kernel_rfl
theorem sF (w : World) : Calls prog 9 #[] w fun e w' => e = .returned (.bool true) /\ Below w.heap.size w w' := by
 have HW := Hd (sG 4294967301 w (by decide) (by decide))
 rw [show hi 4294967301 = 1 from by decide, show lo 4294967301 = 5 from by decide] at HW
 have hq := aCq
 go_enter func9, ntmps9
 go_wp2_with (go_at_call 24; refine (HW.out).mono ?_; rintro e w1 ⟨rfl, hb⟩; have HB := Hd hb; clear hb HW)
 go_ret
 exact ⟨rfl, HB.out⟩
theorem aAT (d : Int) (w : World) :
 Calls prog 6 #[.int .u64 d] w fun e w' => e = .returned (.bool true) /\ Below w.heap.size w w' := by
 have HB := Hd (aT w)
 go_enter func6, ntmps6
 go_wp2_with (first
  | (go_at_call 14; refine (uA).mono ?_; rintro e w1 ⟨rfl, rfl⟩)
  | (go_at_call 8; refine (yI _ _).mono ?_; rintro e w1 ⟨rfl, rfl⟩)
  | (go_at_call 9; refine (sF _).mono ?_; rintro e w1 ⟨rfl, hb⟩; have HB := Hd (tr HB.out hb); clear hb)
  | (go_at_call 12; refine (pH _).mono ?_; rintro e w1 ⟨rfl, rfl⟩)
  | (go_at_call 11; refine (pI).mono ?_; rintro e w1 ⟨rfl, rfl⟩)
  | (go_at_call 16; refine (rC).mono ?_; rintro e w1 ⟨rfl, rfl⟩)
  | (go_at_call 17; refine (nQ).mono ?_; rintro e w1 ⟨rfl, hb⟩; have HB := Hd (tr HB.out hb); clear hb)
  | (go_at_call 10; refine (tZ).mono ?_; rintro e w1 ⟨rfl, rfl⟩))
 go_ret
 exact ⟨rfl, HB.out⟩
theorem wShotNil (v0 : Value) (w : World) (h0 : FitsV w (.int .u64) v0) :
 Calls prog 6 #[v0] w fun e w' => e = .returned (.bool true) /\ Below w.heap.size w w' := by
 obtain ⟨a, rfl, _, _⟩ := fits_u64 h0
 exact aAT a w
def pV (w0 w : World) (b wb : Nat) (d v : Int) : Prop := ∃ (C : Bp) (x : Bx), aS w C x /\ C.new w0.heap.size /\ C.b = b /\ C.n = 1 /\ C.c = 1 /\ x.es.length = 0 /\ x.D 0 = v /\ w.heap[wb]? = some (oW3 d) /\ Below w0.heap.size w0 w
section
variable {w0 w w' : World} {b wb : Nat} {d v a : Int}
theorem pV.below (h : pV w0 w b wb d v) (hb : Below w.heap.size w w') : pV w0 w' b wb d v := by
 obtain ⟨C, x, h1, h2, h3, h4, h5, h6, h7, h8, h9⟩ := h
 exact ⟨C, x, h1.below hb, h2, h3, h4, h5, h6, h7, aB hb h8 (lt_of_block h8), tr h9 hb⟩
theorem pV.lo (h : pV w0 w b wb d v) : Below w0.heap.size w0 w := by
 obtain ⟨C, x, h1, h2, h3, h4, h5, h6, h7, h8, h9⟩ := h
 exact h9
theorem pV.lt (h : pV w0 w b wb d v) : wb < w.heap.size := by
 obtain ⟨C, x, h1, h2, h3, h4, h5, h6, h7, h8, h9⟩ := h
 exact lt_of_block h8
theorem pV.c (h : pV w0 w b wb d v) (j : Nat) (y : Value) (hv : [Value.int .u32 4294967295, .int .u32 (hi d), .int .u32 (B.lo d)][j]? = some y) : w.cell? ⟨wb, j, none⟩ = some y := by
 obtain ⟨C, x, h1, h2, h3, h4, h5, h6, h7, h8, h9⟩ := h
 rw [aA h8, y0q]
 exact hv
theorem pV.sto (h : pV w0 w b wb d v) (A u r : Int) (ha : A = 33570816 /\ r = aV (hi v) u \/ A = 33570820 /\ r = aV u (B.lo v)) (u0 : 0 <= u) (u1 : u < 4294967296) :
 Calls prog 26 #[.pointer (some ⟨b, 0, none⟩), .int .u32 A, .int .u32 u] w fun e w' => e = .returned (.int .i64 0) /\ pV w0 w' b wb d r := by
 obtain ⟨C, x, h1, h2, rfl, h4, h5, h6, rfl, h8, h9⟩ := h
 have hs : x.sto C.n C.c A u = x.cmp 0 r /\ Bx.ste C.n C.c A = 0 := by
  rcases ha with ⟨rfl, rfl⟩ | ⟨rfl, rfl⟩
  . exact ⟨aAW (h := 0) h1.still (by omega) (by omega), aAU (h := 0) (by omega) (by omega)⟩
  . exact ⟨yN (h := 0) h1.still (by omega) (by omega), yL (h := 0) (by omega) (by omega)⟩
 have hA : 0 <= A /\ A < 4294967296 := by rcases ha with ⟨rfl, _⟩ | ⟨rfl, _⟩ <;> decide
 have c := rL C x A u w h1 hA.1 hA.2 u0 u1 (by omega)
 rw [hs.1, hs.2] at c
 refine c.mono ?_
 rintro e w' ⟨rfl, L⟩
 obtain ⟨C2, LC⟩ := L.lft h1 h2 h9.size
 exact ⟨rfl, C2, _, LC.h, LC.nw, LC.e, LC.n.trans h4, LC.c.trans h5, h6, yV x.D 0 r, LC.kp _ _ _ _ h8 (by decide), h9.trans LC.lo⟩
theorem pV.cmp (h : pV w0 w b wb d v) :
 Calls prog 22 #[.pointer (some ⟨b, 0, none⟩), .int .i64 0] w fun e w' => e = .returned (.int .u64 v) /\ pV w0 w' b wb d v := by
 obtain ⟨C, x, h1, h2, rfl, h4, h5, h6, rfl, h8, h9⟩ := h
 have c := sP C x 0 w h1
 rw [show oF C.n x.D 0 = x.D 0 by unfold oF cC; rw [h4]; rfl] at c
 refine c.mono ?_
 rintro e w' ⟨rfl, hb⟩
 exact ⟨rfl, C, x, h1.below hb, h2, rfl, h4, h5, h6, rfl, aB hb h8 (lt_of_block h8), tr h9 hb⟩
end
theorem uB (w : World) (A d : Int) (a0 : 0 <= A) (a1 : A < 18446744073709551616) (d0 : 0 <= d) (d1 : d < 18446744073709551616) :
 Calls prog 5 #[.int .u64 A, .int .u64 d] w fun e w' => e = .returned (.bool true) /\ Below w.heap.size w w' := by
 have HW := Hd (sG d w d0 d1)
 have HNEW := Hd (fun w' => aCX 1 1 1 w' (by decide) (by decide) (by decide) (by decide) (by decide) (by decide))
 obtain ⟨al, hal⟩ : ∃ al, A.tmod 4294967296 = al := ⟨_, rfl⟩
 have hal2 := hal
 rw [Int.tmod_eq_emod_of_nonneg a0] at hal2
 obtain ⟨ah, hah⟩ : ∃ ah, A.tdiv 4294967296 = ah := ⟨_, rfl⟩
 have hah2 := hah
 rw [Int.tdiv_eq_ediv_of_nonneg a0] at hah2
 have l0 : 0 <= al := by omega
 have l1 : al < 4294967296 := by omega
 have m0 : 0 <= ah := by omega
 have m1 : ah < 4294967296 := by omega
 have hb := tB d0 d1
 have q0 := cW d
 have q1 := lZ d
 obtain ⟨ls, hls⟩ : ∃ ls, min A d = ls := ⟨_, rfl⟩
 have t1 : decide (ls <= aV ah 4294967295) = true := decide_eq_true (by unfold aV; omega)
 have t2 : decide (ls <= aV (hi d) 4294967295) = true := decide_eq_true (by unfold aV hi; omega)
 have HJ := Hd (show aV (hi (aV ah al)) 4294967295 = aV ah 4294967295 by rw [rP l0 l1])
 have HJ2 := Hd (show aV (hi d) (lo (aV ah 4294967295)) = aV (hi d) 4294967295 by rw [rU (by decide) (by decide)])
 have HJ3 := Hd (show aV (hi (aV (hi d) 4294967295)) (lo d) = d by rw [rP (by decide) (by decide)]; unfold aV hi lo; omega)
 have HLB := Hd (And.intro l0 l1)
 have HMB := Hd (And.intro m0 m1)
 have HHB := Hd hb
 have HQB := Hd (And.intro q0 q1)
 have dd : (d == d) = true := beq_self_eq_true d
 clear hal2 hah2 a0 a1 d0 d1 hb q0 q1
 go_enter func5, ntmps5
 go_upto_region 2 with (go_at_call 24; refine (HW.out).mono ?_; rintro e w1 ⟨rfl, hb⟩; have HBW := Hd hb; clear hb HW)
 rw [show Obj.cells #[.int .u32 4294967295, .int .u32 (hi d), .int .u32 (lo d)] 70 (0, 0) = oW3 d from rfl]
 have HB := Hd (aO HBW.out (oW3 d))
 have HK := Hd (show (w1.alloc (oW3 d)).heap[w1.heap.size]? = some (oW3 d) from aF w1 _)
 generalize w1.alloc (oW3 d) = W at *
 generalize w1.heap.size = wb at *
 go_upto_region 3 with (go_at_call 25; refine (HNEW.out _).mono ?_; rintro e w2 ⟨B, rfl, h1, hb, h3, h7, h8, h9⟩; have H0 := Hd (show pV w w2 B.b wb d ((uY 1).D 0) from ⟨B, uY 1, h1, fun k hk => Nat.le_trans HB.out.size (h3 k hk), rfl, h7, h8, rfl, rfl, aB hb HK.out (lt_of_block HK.out), tr HB.out hb⟩); clear h1 hb h3 h7 h8 h9 HNEW HB HK)
 generalize (uY 1).D 0 = v0 at *
 generalize B.b = b at *
 go_upto_region 7 with (go_at_call 26; refine (H0.out.sto 33570816 al (aV (hi v0) al) (.inl ⟨rfl, rfl⟩) HLB.out.1 HLB.out.2).mono ?_; rintro e w3 ⟨rfl, hS⟩; have H1 := Hd hS; clear hS H0)
 go_upto_region 8 with (go_at_call 26; refine (H1.out.sto 33570820 ah (aV ah al) (.inr ⟨rfl, by rw [rU HLB.out.1 HLB.out.2]⟩) HMB.out.1 HMB.out.2).mono ?_; rintro e w4 ⟨rfl, hS⟩; have H2 := Hd hS; clear hS H1)
 go_upto_region 9 with (fail)
 have c := H2.out.c 0 _ rfl
 have hl := H2.out.lt
 go_upto_region 10 with (go_at_call 26; refine (H2.out.sto 33570816 4294967295 (aV ah 4294967295) (.inl ⟨rfl, HJ.out.symm⟩) (by decide) (by decide)).mono ?_; rintro e w5 ⟨rfl, hS⟩; have H3 := Hd hS; clear hS H2 c hl)
 go_upto_region 11 with (go_at_call 22; refine (H3.out.cmp).mono ?_; rintro e w6 ⟨rfl, hS⟩; have H4 := Hd hS; clear hS H3)
 have c := H4.out.c 1 _ rfl
 have hl := H4.out.lt
 go_upto_region 12 with (go_at_call 26; refine (H4.out.sto 33570820 (hi d) (aV (hi d) 4294967295) (.inr ⟨rfl, HJ2.out.symm⟩) HHB.out.1 HHB.out.2).mono ?_; rintro e w7 ⟨rfl, hS⟩; have H5 := Hd hS; clear hS H4 c hl)
 go_upto_region 13 with (go_at_call 22; refine (H5.out.cmp).mono ?_; rintro e w8 ⟨rfl, hS⟩; have H6 := Hd hS; clear hS H5)
 have c := H6.out.c 2 _ rfl
 have hl := H6.out.lt
 go_upto_region 14 with (go_at_call 26; refine (H6.out.sto 33570816 (lo d) d (.inl ⟨rfl, HJ3.out.symm⟩) HQB.out.1 HQB.out.2).mono ?_; rintro e w9 ⟨rfl, hS⟩; have H7 := Hd hS; clear hS H6 c hl)
 go_wp2_with (first
  | (go_at_call 9; refine (sF _).mono ?_; rintro e w10 ⟨rfl, hb⟩; have H7 := Hd (H7.out.below hb); clear hb)
  | (go_at_call 22; refine (H7.out.cmp).mono ?_; rintro e w11 ⟨rfl, hS⟩; have H8 := Hd hS; clear hS))
 go_ret
 exact ⟨rfl, H8.out.lo⟩
theorem wShotWords (v0 v1 : Value) (w : World) (h0 : FitsV w (.int .u64) v0) (h1 : FitsV w (.int .u64) v1) :
 Calls prog 5 #[v0, v1] w fun e w' => e = .returned (.bool true) /\ Below w.heap.size w w' := by
 obtain ⟨a, rfl, a0, a1⟩ := fits_u64 h0
 obtain ⟨d, rfl, d0, d1⟩ := fits_u64 h1
 exact uB w a d a0 a1 d0 d1
end Go.Proofs.YtaohacadochldaaGreat.B
