/- A part of the proof of a law of layer 12: bc. -/
import Derived.Test.YtpojmmgokgamgaaGreatZYbb
set_option linter.unusedVariables false
set_option linter.unusedSimpArgs false
set_option maxHeartbeats 12800000
set_option maxRecDepth 100000
namespace Go.Proofs.YtpojmmgokgamgaaGreat.B
open Go.Proofs.Tryz
open List renaming getElem?_toArray -> y0q, getElem?_cons_zero -> y1q
open Go.ChangeShapes Go.WideShapes Go.RowKit Go.Sort
def acV (p p2 : Pt) (V : Int) : Int := if p.dn = true then 0 else if p.pass.dn = true then 0 else if p2.dn = true then 0 else V
def acE (p p2 : Pt) (E : Int) : Int := if p.dn = true then 13 else if p.pass.dn = true then 13 else if p2.dn = true then 13 else E
def acS (p p2 : Pt) : Pt := if p.dn = true then p else if p.pass.dn = true then p.pass else p2
theorem bQ.off {w w' : World} {q : Nat} {B : Bp} {p : Pt} {gv : Value} (L : bQ q B p gv w w') : aF (fun k => k = q \/ B.own k) w w' := by obtain ⟨_, _, h, _⟩ := L; exact h
theorem mN {w w' : World} {q : Nat} {B : Bp} {p : Pt} {gv : Value} (H : aY w q B p gv) (ho : aF (fun k => k = q \/ B.own k) w w') {k : Nat} {cs : Array Value} {T : TypeId} {f : Nat × Nat} (h : w.heap[k]? = some (.cells cs T f)) (h1 : aAk (T + 1) = false) (h2 : (T == zP) = false) : w'.heap[k]? = some (.cells cs T f) :=
 ho.at h fun e => by
  rcases e with e | e
  . exact aK h H.cell h2 e
  . have := H.bd.ownKd e; rw [bP h, h1] at this; cases this
theorem aJ6 (cv : Value) (q : Nat) (B : Bp) (p : Pt) (gv : Value) (m : Nat) (w : World) (H : aY w q B p gv) (ok : p.ok m) (hm : m < 4294967290) (h0 : p.dn = true) :
 Calls prog 39 #[.pointer (some ⟨q, 0, none⟩), cv] w fun e w' => e = .returned (.tuple #[.int .u32 0, .int .i64 13]) /\ bQ q B p gv w w' := by
 have HD := Hd (sS q B p gv w H ok.td ok.se)
 rw [h0] at HD
 have HH := Hd H
 clear ok hm H h0
 go_enter func39, ntmps39
 go_wp2_with fail
 refine (HD.out).mono ?_
 rintro e w1 ⟨rfl, hb⟩
 have HX := Hd (HH.out.left hb)
 clear hb
 go_wp2_with fail
 go_ret2
 exact ⟨rfl, HX.out⟩
theorem aJg (cv : Value) (q : Nat) (B : Bp) (p : Pt) (gv : Value) (m : Nat) (w : World) (H : aY w q B p gv) (ok : p.ok m) (hm : m < 4294967290) (h0 : p.dn = false) (h1 : p.pass.dn = true) :
 Calls prog 39 #[.pointer (some ⟨q, 0, none⟩), cv] w fun e w' => e = .returned (.tuple #[.int .u32 0, .int .i64 13]) /\ bQ q B p.pass gv w w' := by
 have HD := Hd (sS q B p gv w H ok.td ok.se)
 rw [h0] at HD
 have HP := Hd (fun w' h => aJ9 q B p gv m w' h ok hm)
 have hpo := Pt.pass_ok ok H.bd.still hm
 have HD2 := Hd (fun w' ev' (h : aY w' q { B with ev := ev' } p.pass gv) => sS q { B with ev := ev' } p.pass gv w' h hpo.td hpo.se)
 rw [h1] at HD2
 have HH := Hd H
 clear hpo ok hm H h0 h1
 go_enter func39, ntmps39
 go_wp2_with fail
 refine (HD.out).mono ?_
 rintro e w1 ⟨rfl, hb⟩
 have HO := Hd (aF.ofBelow (S := fun k => k = q \/ B.own k) hb)
 have HH1 := Hd (HH.out.below hb)
 clear hb HD
 go_wp2_with fail
 refine (HP.out _ HH1.out).mono ?_
 rintro e w2 ⟨rfl, hL⟩
 have HL := Hd (bQ.from HO.out hL)
 clear hL HH1 HO HP
 go_wp2_with fail
 obtain ⟨ev2, h2, ho2, he2⟩ := HL.out
 refine (HD2.out _ _ h2).mono ?_
 rintro e w3 ⟨rfl, hb⟩
 have HX := Hd (HL.out.below hb)
 have HH3 := Hd (h2.below hb)
 have HO3 := Hd (ho2.trans (aF.ofBelow hb))
 have HE3 := Hd he2
 clear hb h2 ho2 he2 HD2 HL
 go_wp2_with fail
 go_ret2
 exact ⟨rfl, HX.out⟩
theorem wN {P : Prop} (h : P := by
 cases D
 all_goals
  have HD := Hd (sS q B p gv w H ok.td ok.se)
  rw [h0] at HD
  have HP := Hd (fun w' h => aJ9 q B p gv m w' h ok hm)
  have hpo := Pt.pass_ok ok H.bd.still hm
  have HD2 := Hd (fun w' ev' (h : aY w' q { B with ev := ev' } p.pass gv) => sS q { B with ev := ev' } p.pass gv w' h hpo.td hpo.se)
  rw [h1] at HD2
  have HH := Hd H
  have hq2 := H2 h0 h1
  have HFF := Hd (fun w1 ev1 => HF.out w1 ev1 h0 h1)
  have HD3 := Hd (fun w' C (h : aY w' q C p2 gv) => sS q C p2 gv w' h hq2.1 hq2.2)
  rw [h2] at HD3
  clear H2 HF hq2 h2
  clear hpo ok hm H h0 h1
  go_enter func39, ntmps39
  go_wp2_with fail
  refine (HD.out).mono ?_
  rintro e w1 ⟨rfl, hb⟩
  have HO := Hd (aF.ofBelow (S := fun k => k = q \/ B.own k) hb)
  have HH1 := Hd (HH.out.below hb)
  clear hb HD
  go_wp2_with fail
  refine (HP.out _ HH1.out).mono ?_
  rintro e w2 ⟨rfl, hL⟩
  have HL := Hd (bQ.from HO.out hL)
  clear hL HH1 HO HP
  go_wp2_with fail
  obtain ⟨ev2, h2, ho2, he2⟩ := HL.out
  refine (HD2.out _ _ h2).mono ?_
  rintro e w3 ⟨rfl, hb⟩
  have HX := Hd (HL.out.below hb)
  have HH3 := Hd (h2.below hb)
  have HO3 := Hd (ho2.trans (aF.ofBelow hb))
  have HE3 := Hd he2
  clear hb h2 ho2 he2 HD2 HL
  go_wp2_with fail
  refine (HFF.out _ ev2 HO3.out HH3.out).mono ?_
  rintro e w4 ⟨rfl, hL⟩
  obtain ⟨ev4, h4, ho4, he4⟩ := hL
  have HX4 := Hd (bQ.andThen HO3.out HE3.out ⟨ev4, h4, ho4, he4⟩)
  have HH4 := Hd h4
  clear h4 ho4 he4 HH3 HFF HX HO3 HE3
  go_wp2_with fail
  refine (HD3.out _ _ HH4.out).mono ?_
  rintro e w5 ⟨rfl, hb⟩
  have HX5 := Hd (HX4.out.below hb)
  clear hb HX4 HH4 HD3
  go_wp2_with fail
  go_ret2
  exact ⟨rfl, HX5.out⟩
 ) : P := h
theorem aK7 (q : Nat) (B : Bp) (p : Pt) (gv : Value) (m : Nat) (x y : Nat) (V E : Int) (p2 : Pt) (w : World) (H : aY w q B p gv) (ok : p.ok m) (hm : m < 4294967290)
 (H2 : p.dn = false -> p.pass.dn = false -> p2.x.told /\ p2.se <= p2.x.es.length)
 (HF : Hid (∀ w1 ev1, p.dn = false -> p.pass.dn = false -> aF (fun k => k = q \/ B.own k) w w1 -> aY w1 q { B with ev := ev1 } p.pass gv -> Calls prog 40 #[.pointer (some ⟨x, 0, none⟩), .pointer (some ⟨y, 0, none⟩)] w1 fun e w' => e = .returned (.tuple #[.int .u32 V, .int .i64 E]) /\ bQ q { B with ev := ev1 } p2 gv w1 w')) (D : Bool) (h0 : p.dn = false) (h1 : p.pass.dn = false) (h2 : p2.dn = D) :
 Calls prog 39 #[.pointer (some ⟨q, 0, none⟩), .func (.func 40) #[] #[.pointer (some ⟨x, 0, none⟩), .pointer (some ⟨y, 0, none⟩)]] w fun e w' => e = .returned (.tuple #[.int .u32 (cond D 0 V), .int .i64 (cond D 13 E)]) /\ bQ q B p2 gv w w' := by
 exact wN
theorem aOE (q : Nat) (B : Bp) (p : Pt) (gv : Value) (m : Nat) (x y : Nat) (V E : Int) (p2 : Pt) (w : World) (H : aY w q B p gv) (ok : p.ok m) (hm : m < 4294967290)
 (H2 : p.dn = false -> p.pass.dn = false -> p2.x.told /\ p2.se <= p2.x.es.length)
 (HF : Hid (∀ w1 ev1, p.dn = false -> p.pass.dn = false -> aF (fun k => k = q \/ B.own k) w w1 -> aY w1 q { B with ev := ev1 } p.pass gv -> Calls prog 40 #[.pointer (some ⟨x, 0, none⟩), .pointer (some ⟨y, 0, none⟩)] w1 fun e w' => e = .returned (.tuple #[.int .u32 V, .int .i64 E]) /\ bQ q { B with ev := ev1 } p2 gv w1 w')) :
 Calls prog 39 #[.pointer (some ⟨q, 0, none⟩), .func (.func 40) #[] #[.pointer (some ⟨x, 0, none⟩), .pointer (some ⟨y, 0, none⟩)]] w fun e w' => e = .returned (.tuple #[.int .u32 (acV p p2 V), .int .i64 (acE p p2 E)]) /\ bQ q B (acS p p2) gv w w' := by
 unfold acV acE acS
 cases h0 : p.dn
 . cases h1 : p.pass.dn
   . have := aK7 q B p gv m x y V E p2 w H ok hm H2 HF _ h0 h1 rfl
     cases h2 : p2.dn <;> rw [h2] at this <;> exact this
   . exact aJg _ q B p gv m w H ok hm h0 h1
 . exact aJ6 _ q B p gv m w H ok hm h0
theorem aKY (q : Nat) (B : Bp) (p : Pt) (gv : Value) (m : Nat) (x y z : Nat) (V E : Int) (p2 : Pt) (w : World) (H : aY w q B p gv) (ok : p.ok m) (hm : m < 4294967290)
 (H2 : p.dn = false -> p.pass.dn = false -> p2.x.told /\ p2.se <= p2.x.es.length)
 (HF : Hid (∀ w1 ev1, p.dn = false -> p.pass.dn = false -> aF (fun k => k = q \/ B.own k) w w1 -> aY w1 q { B with ev := ev1 } p.pass gv -> Calls prog 42 #[.pointer (some ⟨x, 0, none⟩), .pointer (some ⟨y, 0, none⟩), .pointer (some ⟨z, 0, none⟩)] w1 fun e w' => e = .returned (.tuple #[.int .u32 V, .int .i64 E]) /\ bQ q { B with ev := ev1 } p2 gv w1 w')) (D : Bool) (h0 : p.dn = false) (h1 : p.pass.dn = false) (h2 : p2.dn = D) :
 Calls prog 39 #[.pointer (some ⟨q, 0, none⟩), .func (.func 42) #[] #[.pointer (some ⟨x, 0, none⟩), .pointer (some ⟨y, 0, none⟩), .pointer (some ⟨z, 0, none⟩)]] w fun e w' => e = .returned (.tuple #[.int .u32 (cond D 0 V), .int .i64 (cond D 13 E)]) /\ bQ q B p2 gv w w' := by
 exact wN
theorem aNW (q : Nat) (B : Bp) (p : Pt) (gv : Value) (m : Nat) (x y z : Nat) (V E : Int) (p2 : Pt) (w : World) (H : aY w q B p gv) (ok : p.ok m) (hm : m < 4294967290)
 (H2 : p.dn = false -> p.pass.dn = false -> p2.x.told /\ p2.se <= p2.x.es.length)
 (HF : Hid (∀ w1 ev1, p.dn = false -> p.pass.dn = false -> aF (fun k => k = q \/ B.own k) w w1 -> aY w1 q { B with ev := ev1 } p.pass gv -> Calls prog 42 #[.pointer (some ⟨x, 0, none⟩), .pointer (some ⟨y, 0, none⟩), .pointer (some ⟨z, 0, none⟩)] w1 fun e w' => e = .returned (.tuple #[.int .u32 V, .int .i64 E]) /\ bQ q { B with ev := ev1 } p2 gv w1 w')) :
 Calls prog 39 #[.pointer (some ⟨q, 0, none⟩), .func (.func 42) #[] #[.pointer (some ⟨x, 0, none⟩), .pointer (some ⟨y, 0, none⟩), .pointer (some ⟨z, 0, none⟩)]] w fun e w' => e = .returned (.tuple #[.int .u32 (acV p p2 V), .int .i64 (acE p p2 E)]) /\ bQ q B (acS p p2) gv w w' := by
 unfold acV acE acS
 cases h0 : p.dn
 . cases h1 : p.pass.dn
   . have := aKY q B p gv m x y z V E p2 w H ok hm H2 HF _ h0 h1 rfl
     cases h2 : p2.dn <;> rw [h2] at this <;> exact this
   . exact aJg _ q B p gv m w H ok hm h0 h1
 . exact aJ6 _ q B p gv m w H ok hm h0
abbrev tPp : TypeId := 31
def bxP (q : Nat) : Obj := .cells #[.pointer (some ⟨q, 0, none⟩)] tPp (0, 0)
def uR (a : Int) : Obj := .cells #[.int .u32 a] tU (0, 0)
theorem aMY (q : Nat) (C : Bp) (p : Pt) (gv : Value) (x y : Nat) (a : Int) (w : World) (H : aY w q C p gv) (hx : w.heap[x]? = some (bxP q)) (hy : w.heap[y]? = some (uR a)) (a0 : 0 <= a) (a1 : a < 4294967296) :
 Calls prog 40 #[.pointer (some ⟨x, 0, none⟩), .pointer (some ⟨y, 0, none⟩)] w fun e w' => e = .returned (.tuple #[.int .u32 (p.x.ldv C.n C.c a), .int .i64 (Bx.lde C.n C.c a)]) /\ Below w.heap.size w w' := by
 have HL := Hd (show ∀ w', bC w' C p.x -> _ from fun w' h => aBh C p.x a w' h a0 a1)
 have HH := Hd H
 have cx := aA hx 0
 have cy := aA hy 0
 simp only [y0q, y1q] at cx cy
 have hlx := lt_of_block hx
 have hly := lt_of_block hy
 have c3 := H.c3
 have hq := H.lt
 have hg := bI
 clear H hx hy a0 a1
 go_enter func40, ntmps40
 go_upto_region 1 with (fail)
 refine wp_region_quiet_below (by kernel_rfl) (by kernel_rfl) ?_
 repeat (go_big_quiet_step (first | (go_at_call 41; exact Calls.regrown_of (HL.out _ (HH.out.bd.below (below_regrown w _ _))))))
 refine wpQuiet_nil ?_
 intro _ hw'
 obtain ⟨⟨dq, osq⟩, hw''⟩ := hw'
 subst hw''
 go_wp2_with fail
 go_ret2
 exact ⟨rfl, below_regrown w _ _⟩
theorem aH9 (q : Nat) (C : Bp) (p : Pt) (gv : Value) (x y z : Nat) (a v : Int) (w : World) (H : aY w q C p gv) (hx : w.heap[x]? = some (bxP q)) (hy : w.heap[y]? = some (uR a)) (hz : w.heap[z]? = some (uR v)) (a0 : 0 <= a) (a1 : a < 4294967296) (v0 : 0 <= v) (v1 : v < 4294967296) (hl : p.x.es.length < 4294967296) :
 Calls prog 42 #[.pointer (some ⟨x, 0, none⟩), .pointer (some ⟨y, 0, none⟩), .pointer (some ⟨z, 0, none⟩)] w fun e w' => e = .returned (.tuple #[.int .u32 0, .int .i64 (Bx.ste C.n C.c a)]) /\ bQ q C (p.put C.n C.c a v) gv w w' := by
 have HL := Hd (show ∀ w', bC w' C p.x -> _ from fun w' h => aHt C p.x a v w' h a0 a1 v0 v1 hl)
 have HH := Hd H
 have cx := aA hx 0
 have cy := aA hy 0
 have cz := aA hz 0
 simp only [y0q, y1q] at cx cy cz
 have hlx := lt_of_block hx
 have hly := lt_of_block hy
 have hlz := lt_of_block hz
 have c3 := H.c3
 have hq := H.lt
 have hg := bI
 clear H hx hy hz a0 a1 v0 v1 hl
 go_enter func42, ntmps42
 go_upto_region 1 with (fail)
 refine jE 6 (by kernel_rfl) (by kernel_rfl) (by intro _ _ d _ _ h; cases d <;> exact h) ?_
 simp only [List.take_succ_cons, List.take_zero, List.drop_succ_cons, List.drop_zero]
 repeat (go_big_quiet_step (fail))
 refine wpQuiet_nil ?_
 intro _ hw'
 obtain ⟨⟨dq, osq⟩, hw''⟩ := hw'
 subst hw''
 have hb := below_regrown w dq osq
 have HH1 := Hd (HH.out.below hb)
 have HO := Hd (aF.ofBelow (S := fun k => k = q \/ C.own k) hb)
 clear hb hg cx cy cz c3
 dsimp only at HH1 HO ⊢
 generalize grow (redrawn w dq) osq = W at *
 go_wp2_with (go_at_call 43; refine (HL.out _ HH1.out.bd).mono ?_; rintro e w2 ⟨rfl, hL⟩; have HX := Hd (bQ.from HO.out (HH1.out.board hL)); clear hL)
 go_ret2
 exact ⟨rfl, HX.out⟩
theorem xV (n c : Nat) (p : Pt) (a : Int) : acV p p.pass (p.pass.x.ldv n c a) = p.ldv n c a /\ acE p p.pass (Bx.lde n c a) = p.lde n c a /\ acS p p.pass = p.ldp := by
 unfold acV acE acS Pt.ldv Pt.lde Pt.ldp
 cases h0 : p.dn <;> cases h1 : p.pass.dn <;> simp
theorem aAp (n c : Nat) (p : Pt) (a v : Int) : acE p (p.pass.put n c a v) (Bx.ste n c a) = p.ste n c a v /\ acS p (p.pass.put n c a v) = p.stp n c a v := by
 unfold acE acS Pt.ste Pt.stp
 exact ⟨rfl, rfl⟩
theorem aDT (q : Nat) (B : Bp) (p : Pt) (gv : Value) (m : Nat) (a : Int) (w : World) (H : aY w q B p gv) (ok : p.ok m) (hm : m < 4294967290) (a0 : 0 <= a) (a1 : a < 4294967296) :
 Calls prog 17 #[.pointer (some ⟨q, 0, none⟩), .int .u32 a] w fun e w' => e = .returned (.tuple #[.int .u32 (p.ldv B.n B.c a), .int .i64 (p.lde B.n B.c a)]) /\ bQ q B p.ldp gv w w' := by
 have hb := aE (aE (aI w) (bxP q)) (uR a)
 have hpo := Pt.pass_ok ok H.bd.still hm
 have hx := bG w (bxP q) (uR a)
 have hy := bL w (bxP q) (uR a)
 have HH := H.below hb
 have HA := Hd (aOE q B p gv m w.heap.size (w.heap.size + 1) (p.pass.x.ldv B.n B.c a) (Bx.lde B.n B.c a) p.pass _ HH ok hm (fun _ _ => ⟨hpo.td, hpo.se⟩) (Hd fun w1 ev1 _ _ ho h => (aMY q { B with ev := ev1 } p.pass gv _ _ a w1 h (mN HH ho hx (by decide) rfl) (mN HH ho hy (by decide) rfl) a0 a1).mono fun e w' g => ⟨g.1, h.left g.2⟩))
 rw [(xV B.n B.c p a).1, (xV B.n B.c p a).2.1, (xV B.n B.c p a).2.2] at HA
 have HO := Hd (aF.ofBelow (S := fun k => k = q \/ B.own k) hb)
 have cx := aA hx 0
 simp only [y0q, y1q] at cx
 clear HH hpo H ok hm a0 a1 hb hx hy
 go_enter func17, ntmps17
 go_upto_region 1 with (fail)
 rw [show Obj.cells #[.pointer (some ⟨q, 0, none⟩)] 31 (0, 0) = bxP q from rfl, show Obj.cells #[.int .u32 a] 22 (0, 0) = uR a from rfl]
 generalize (w.alloc (bxP q)).alloc (uR a) = W at *
 go_wp2_with fail
 refine (HA.out).mono ?_
 rintro e w1 ⟨rfl, hL⟩
 have HX := Hd (bQ.from HO.out hL)
 clear hL
 go_wp2_with fail
 go_ret2
 exact ⟨rfl, HX.out⟩
theorem aFe (q : Nat) (B : Bp) (p : Pt) (gv : Value) (m : Nat) (a v : Int) (w : World) (H : aY w q B p gv) (ok : p.ok m) (hm : m < 4294967290) (a0 : 0 <= a) (a1 : a < 4294967296) (v0 : 0 <= v) (v1 : v < 4294967296) :
 Calls prog 18 #[.pointer (some ⟨q, 0, none⟩), .int .u32 a, .int .u32 v] w fun e w' => e = .returned (.int .i64 (p.ste B.n B.c a v)) /\ bQ q B (p.stp B.n B.c a v) gv w w' := by
 have hb := aE (aE (aE (aI w) (bxP q)) (uR a)) (uR v)
 have gb := Pt.gp_bounds ok.gs
 have hps := (Bx.tick_ok H.bd.ok H.bd.still (N := p.gp) gb.1 (by omega)).2
 have hx := aBQ w (bxP q) (uR a) (uR v)
 have hy := aCa w (bxP q) (uR a) (uR v)
 have hz := aCU w (bxP q) (uR a) (uR v)
 have HH := H.below hb
 have HA := Hd (aNW q B p gv m w.heap.size (w.heap.size + 1) (w.heap.size + 2) 0 (Bx.ste B.n B.c a) (p.pass.put B.n B.c a v) _ HH ok hm
  (fun h0 h1 => have h2 := Pt.stored_ok (n := B.n) (c := B.c) ok HH.bd.still hps hm h0 h1 a v; ⟨h2.td, h2.se⟩)
  (Hd fun w1 ev1 h0 h1 ho h => aH9 q { B with ev := ev1 } p.pass gv _ _ _ a v w1 h (mN HH ho hx (by decide) rfl) (mN HH ho hy (by decide) rfl) (mN HH ho hz (by decide) rfl) a0 a1 v0 v1 (by have := Pt.passed_ok ok HH.bd.still hm h0 h1; omega)))
 rw [(aAp B.n B.c p a v).1, (aAp B.n B.c p a v).2] at HA
 have HO := Hd (aF.ofBelow (S := fun k => k = q \/ B.own k) hb)
 have cx := aA hx 0
 simp only [y0q, y1q] at cx
 clear HH hps gb H ok hm a0 a1 v0 v1 hb hx hy hz
 go_enter func18, ntmps18
 go_upto_region 1 with (fail)
 rw [show Obj.cells #[.pointer (some ⟨q, 0, none⟩)] 31 (0, 0) = bxP q from rfl, show Obj.cells #[.int .u32 a] 22 (0, 0) = uR a from rfl, show Obj.cells #[.int .u32 v] 22 (0, 0) = uR v from rfl]
 generalize ((w.alloc (bxP q)).alloc (uR a)).alloc (uR v) = W at *
 go_wp2_with fail
 refine (HA.out).mono ?_
 rintro e w1 ⟨rfl, hL⟩
 have HX := Hd (bQ.from HO.out hL)
 clear hL
 go_wp2_with fail
 go_ret
 exact ⟨rfl, HX.out⟩
def Kq (w w' : World) : Prop := ∀ (k : Nat) (cs : Array Value) (T : TypeId) (f : Nat × Nat), w.heap[k]? = some (.cells cs T f) -> aAk (T + 1) = false -> (T == zP) = false -> w'.heap[k]? = some (.cells cs T f)
theorem Kq.trans {a b c : World} (h : Kq a b) (g : Kq b c) : Kq a c := fun k cs T f hk hT hP => g k cs T f (h k cs T f hk hT hP) hT hP
theorem Kq.ofBelow {w w' : World} (hb : Below w.heap.size w w') : Kq w w' := fun _ _ _ _ h _ _ => aC hb h (lt_of_block h)
structure Lp (s q : Nat) (B C : Bp) (p : Pt) (gv : Value) (w w' : World) : Prop where
 h : aY w' q C p gv
 nw : C.new s
 e : C.b = B.b
 n : C.n = B.n
 c : C.c = B.c
 d : C.div = B.div
 lo : Below s w w'
 kq : Kq w w'
section
variable {w w' w'' : World} {s q : Nat} {B C : Bp} {p p0 : Pt} {gv gv0 : Value}
theorem bQ.kq (H : aY w q B p0 gv0) (L : bQ q B p gv w w') : Kq w w' := fun k cs T f hk hT hP => L.off.at hk fun e => by
 rcases e with e | e
 . rw [e, H.cell] at hk; cases hk; cases hP
 . have := H.bd.ownKd e; rw [bP hk, hT] at this; cases this
theorem bQ.lp (H : aY w q B p0 gv0) (L : bQ q B p gv w w') (h : B.new s) (hq : s <= q) (hs : s <= w.heap.size) : ∃ C, Lp s q B C p gv w w' := by
 have K := L.kq H
 obtain ⟨ev', H1, ho, he⟩ := L
 exact ⟨{ B with ev := ev' }, H1, aAi h hs he, rfl, rfl, rfl, rfl, ho.below (fun k hk ho => by
  rcases ho with e | e
  . omega
  . have := h k (.inl e); omega) hs, K⟩
theorem kY.kq {t : Nat} {v : Value} {gs : List Int} (h : kY t w v gs) (K : Kq w w') (lo : Below t w w') : kY t w' v gs := h.keep lo.size fun k hk hg => by
 rcases hg with hg | hg
 . exact lo.block k hg
 . unfold kd at hg
   cases e : w.heap[k]? with
   | none => rw [e] at hg; exact absurd (show gK 0 = true from hg) (by decide)
   | some o =>
     rw [e] at hg
     cases o with
     | cells cs T f =>
       have h1 := aBe hg
       exact K k cs T f e h1.1 (by
        cases h2 : (T == zP)
        . rfl
        . exact absurd (by rw [beq_iff_eq.1 h2]) h1.2.2)
     | _ => exact absurd (show gK 0 = true from hg) (by decide)
end
theorem aCw (d : Int) : (rH d).told := rfl
theorem aKL {m : Nat} (x : Bx) (gs : List Int) (ht : x.told) (hm : x.es.length <= m) (hl : gs.length <= 64) (hg : ∀ g ∈ gs, 0 <= g /\ g < 4294967296) : (pt0 x gs).ok m :=
 ⟨ht, Nat.le_refl _, hm, Nat.zero_le _, Int.le_refl _, (by show (0 : Int) <= ((0 : Nat) : Int) * 4294967295; omega), hl, hg⟩
theorem iC : (prog.info? 40).map (·.size) = some 26 := by kernel_rfl
def dL (t : Int) (n : Nat) (A B S : Nat -> Int) : List Value := [.int .u64 t] ++ (il .u32 A 8 ++ (il .u32 B 8 ++ (il .u32 S 8 ++ [.int .i64 n])))
section
variable (t : Int) (n : Nat) (A B S : Nat -> Int)
theorem dY : (dL t n A B S).length = 26 := by simp [dL, bV]
theorem aDH : ∀ v ∈ dL t n A B S, v.oneCell' = true := by
 intro v h
 unfold dL at h
 simp only [List.mem_append, List.mem_cons, List.not_mem_nil, or_false] at h
 rcases h with rfl | h | h | h | rfl
 . rfl
 . exact tT _ _ _ v h
 . exact tT _ _ _ v h
 . exact tT _ _ _ v h
 . rfl
theorem aNx (i : Nat) (h : i < 8) : (dL t n A B S)[1 + i]? = some (.int .u32 (A i)) := by
 unfold dL; rw [eB _ _ 1 i (by rfl), mL _ _ _ (by rw [bV]; exact h), oC _ _ _ _ h]
theorem aOL (i : Nat) (h : i < 8) : (dL t n A B S)[9 + i]? = some (.int .u32 (B i)) := by
 unfold dL; rw [show 9 + i = 1 + (8 + i) by omega, eB _ _ 1 _ (by rfl), eB _ _ 8 i (by rw [bV]), mL _ _ _ (by rw [bV]; exact h), oC _ _ _ _ h]
theorem aJX (i : Nat) (h : i < 8) : (dL t n A B S)[17 + i]? = some (.int .u32 (S i)) := by
 unfold dL; rw [show 17 + i = 1 + (8 + (8 + i)) by omega, eB _ _ 1 _ (by rfl), eB _ _ 8 _ (by rw [bV]), eB _ _ 8 i (by rw [bV]), mL _ _ _ (by rw [bV]; exact h), oC _ _ _ _ h]
theorem aJZ : (dL t n A B S)[25]? = some (.int .i64 n) := by
 unfold dL; rw [show 25 = 1 + (8 + (8 + (8 + 0))) by omega, eB _ _ 1 _ (by rfl), eB _ _ 8 _ (by rw [bV]), eB _ _ 8 _ (by rw [bV]), eB _ _ 8 _ (by rw [bV])]; rfl
theorem aFD (v : Int) : (dL t n A B S).set 0 (.int .u64 v) = dL v n A B S := rfl
theorem aGZ (i : Nat) (v : Int) (h : i < 8) : (dL t n A B S).set (1 + i) (.int .u32 v) = dL t n (upd A i v) B S := by
 unfold dL; rw [fU _ _ 1 i _ (by rfl), gZ _ _ _ _ (by rw [bV]; exact h), sM]
theorem aGr (i : Nat) (v : Int) (h : i < 8) : (dL t n A B S).set (9 + i) (.int .u32 v) = dL t n A (upd B i v) S := by
 unfold dL; rw [show 9 + i = 1 + (8 + i) by omega, fU _ _ 1 _ _ (by rfl), fU _ _ 8 i _ (by rw [bV]), gZ _ _ _ _ (by rw [bV]; exact h), sM]
theorem aGP (i : Nat) (v : Int) (h : i < 8) : (dL t n A B S).set (17 + i) (.int .u32 v) = dL t n A B (upd S i v) := by
 unfold dL; rw [show 17 + i = 1 + (8 + (8 + i)) by omega, fU _ _ 1 _ _ (by rfl), fU _ _ 8 _ _ (by rw [bV]), fU _ _ 8 i _ (by rw [bV]), gZ _ _ _ _ (by rw [bV]; exact h), sM]
end
theorem aEN {t : Int} {n : Nat} {A B S A' B' S' : Nat -> Int} (ha : ∀ i, i < 8 -> A i = A' i) (hb : ∀ i, i < 8 -> B i = B' i) (hs : ∀ i, i < 8 -> S i = S' i) : dL t n A B S = dL t n A' B' S' := by
 unfold dL; rw [mG _ _ _ _ ha, mG _ _ _ _ hb, mG _ _ _ _ hs]
def fW (t : Int) (n : Nat) (D S : Nat -> Int) : List Value := dL t n (fun i => lo (D i)) (fun i => hi (D i)) S
theorem fN (t : Int) (n : Nat) (D S : Nat -> Int) : (fW t n D S).length = 26 := dY _ _ _ _ _
theorem aCt (t : Int) (n : Nat) (D S : Nat -> Int) : ∀ v ∈ fW t n D S, v.oneCell' = true := aDH _ _ _ _ _
def bJ (w : World) (b : Nat) (t : Int) (n : Nat) (A B S : Nat -> Int) : Prop := w.heap[b]? = some (.cells (dL t n A B S).toArray 40 (0, 0))
section
variable {w w' : World} {b n : Nat} {t : Int} {A B S : Nat -> Int}
theorem bJ.lt (h : bJ w b t n A B S) : b < w.heap.size := lt_of_block h
theorem bJ.below (h : bJ w b t n A B S) (hb : Below w.heap.size w w') : bJ w' b t n A B S := aC hb h h.lt
theorem bJ.free (h : bJ w b t n A B S) (j : Nat) : w.frozen? ⟨b, j, none⟩ = false := aN h j
theorem bJ.cT (h : bJ w b t n A B S) : w.cell? ⟨b, 0, none⟩ = some (.int .u64 t) := by rw [aA h 0]; rfl
theorem bJ.cL (h : bJ w b t n A B S) (i : Nat) (hi : i < 8) : w.cell? ⟨b, 1 + i, none⟩ = some (.int .u32 (A i)) := by rw [aA h (1 + i), y0q]; exact aNx _ _ _ _ _ _ hi
theorem bJ.cH (h : bJ w b t n A B S) (i : Nat) (hi : i < 8) : w.cell? ⟨b, 9 + i, none⟩ = some (.int .u32 (B i)) := by rw [aA h (9 + i), y0q]; exact aOL _ _ _ _ _ _ hi
theorem bJ.cS (h : bJ w b t n A B S) (i : Nat) (hi : i < 8) : w.cell? ⟨b, 17 + i, none⟩ = some (.int .u32 (S i)) := by rw [aA h (17 + i), y0q]; exact aJX _ _ _ _ _ _ hi
theorem bJ.cN (h : bJ w b t n A B S) : w.cell? ⟨b, 25, none⟩ = some (.int .i64 n) := by rw [aA h 25, y0q]; exact aJZ _ _ _ _ _
theorem bJ.set {t' : Int} {A' B' S' : Nat -> Int} (h : bJ w b t n A B S) (j : Nat) (v : Value) (he : (dL t n A B S).set j v = dL t' n A' B' S') : bJ (w.setCell ⟨b, j, none⟩ v) b t' n A' B' S' := by
 unfold bJ; rw [aS h, <- he]; simp
theorem bJ.setT (h : bJ w b t n A B S) (v : Int) : bJ (w.setCell ⟨b, 0, none⟩ (.int .u64 v)) b v n A B S := h.set _ _ (aFD _ _ _ _ _ _)
theorem bJ.setL (h : bJ w b t n A B S) (i : Nat) (v : Int) (hi : i < 8) : bJ (w.setCell ⟨b, 1 + i, none⟩ (.int .u32 v)) b t n (upd A i v) B S := h.set _ _ (aGZ _ _ _ _ _ _ _ hi)
theorem bJ.setH (h : bJ w b t n A B S) (i : Nat) (v : Int) (hi : i < 8) : bJ (w.setCell ⟨b, 9 + i, none⟩ (.int .u32 v)) b t n A (upd B i v) S := h.set _ _ (aGr _ _ _ _ _ _ _ hi)
theorem bJ.setS (h : bJ w b t n A B S) (i : Nat) (v : Int) (hi : i < 8) : bJ (w.setCell ⟨b, 17 + i, none⟩ (.int .u32 v)) b t n A B (upd S i v) := h.set _ _ (aGP _ _ _ _ _ _ _ hi)
theorem bJ.other (h : bJ w b t n A B S) (k j : Nat) (v : Value) (hne : b ≠ k) : bJ (w.setCell ⟨k, j, none⟩ v) b t n A B S := aW h k j v hne
end
section
variable {ops : Array Oper} {rest : List Oper} {o : Oper} {a : Act} {w : World} {Q : Exit -> Act -> World -> Prop}
theorem lO (hgd : o.guard = none) (x : Operand) (ho : o.op = .load 40 x) {b : Nat} (hx : a.eval x = .pointer (some ⟨b, 0, none⟩)) {t : Int} {n : Nat} {A B S : Nat -> Int} (hg : bJ w b t n A B S)
 (h : wpList prog ops Q rest (a.put o.dst (.agg (dL t n A B S).toArray)) w) : wpList prog ops Q (o :: rest) a w :=
 aL hgd _ x ho b 0 hx _ (dL t n A B S) hg underlying40 rfl (by rw [dY]; exact iC) (aM _) h
theorem mI (hgd : o.guard = none) (x y : Operand) (ho : o.op = .store 40 x y) {b : Nat} (hx : a.eval x = .pointer (some ⟨b, 0, none⟩)) {t : Int} {n : Nat} {A B S : Nat -> Int} (hy : a.eval y = .agg (dL t n A B S).toArray) {cs : Array Value} {ty : TypeId}
 (hg : w.heap[b]? = some (.cells cs ty (0, 0))) (hl : cs.size = 26)
 (h : wpList prog ops Q rest (a.put o.dst undef) (w.setRow b (dL t n A B S).toArray)) : wpList prog ops Q (o :: rest) a w := by
 refine aH hgd _ x y ho b 0 hx (dL t n A B S) hy hg (by rw [dY]; exact iC) (by rw [dY]; omega) (aDH _ _ _ _ _) ?_
 rw [aV _ _ (by rw [dY, hl])]
 exact h
theorem aL1 {C : World -> Prop} {K : Act -> Prop} (x : Operand) (ho : o.op = .load 40 x) {b : Nat} (hx : a.eval x = .pointer (some ⟨b, 0, none⟩)) {t : Int} {n : Nat} {A B S : Nat -> Int} (hg : ∀ w, C w -> bJ w b t n A B S)
 (h : K (a.put o.dst (.agg (dL t n A B S).toArray))) : o.quiet prog a C K :=
 bD _ x ho b 0 hx _ (dL t n A B S) (fun w hw => hg w hw) underlying40 rfl (by rw [dY]; exact iC) (aM _) h
end
theorem bJ.row {w : World} {b : Nat} {cs : Array Value} {t : Int} {n : Nat} {A B S : Nat -> Int} (hg : w.heap[b]? = some (.cells cs 40 (0, 0))) : bJ (w.setRow b (dL t n A B S).toArray) b t n A B S := aT _ hg
theorem aKE {fn : Func} {p : Tmp} (h : fn.results = #[.cell p 40]) (tmps : Array Value) (w : World) {b : Nat} {t : Int} {n : Nat} {A B S : Nat -> Int} (hp : tmps[p]? = some (.pointer (some ⟨b, 0, none⟩))) (hg : bJ w b t n A B S) :
 (results fn tmps).run prog w = .ok (.agg (dL t n A B S).toArray) w :=
 aU h tmps w b 0 _ (dL t n A B S) hp hg underlying40 rfl (by rw [dY]; exact iC) (aM _)
theorem aA6 {fn : Func} {p q : Tmp} (h : fn.results = #[.cell p 40, .tmp q]) (tmps : Array Value) (w : World) {b : Nat} {t : Int} {n : Nat} {A B S : Nat -> Int} (y : Value) (hp : tmps[p]? = some (.pointer (some ⟨b, 0, none⟩))) (hq : tmps[q]? = some y) (hg : bJ w b t n A B S) :
 (results fn tmps).run prog w = .ok (.tuple #[.agg (dL t n A B S).toArray, y]) w :=
 bB h tmps w b 0 _ (dL t n A B S) y hp hq hg underlying40 rfl (by rw [dY]; exact iC) (aM _)
end Go.Proofs.YtpojmmgokgamgaaGreat.B
