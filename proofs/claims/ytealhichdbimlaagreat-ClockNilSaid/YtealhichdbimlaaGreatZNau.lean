/- A part of the proof of a law of layer 12: au. -/
import Derived.Test.YtealhichdbimlaaGreatZNat
import Derived.Test.YtealhichdbimlaaGreatZNO
import Derived.OwnWalk
set_option linter.unusedVariables false
set_option linter.unusedSimpArgs false
set_option maxHeartbeats 12800000
set_option maxRecDepth 100000
namespace Go.Proofs.YtealhichdbimlaaGreat.B
open Go.Proofs.Tryz
open Go.ChangeShapes Go.WideShapes Go.RowKit Go.Sort
def acV (p p2 : Pt) (V : Int) : Int := if p.dn = true then 0 else if p.pass.dn = true then 0 else if p2.dn = true then 0 else V
def acE (p p2 : Pt) (E : Int) : Int := if p.dn = true then 13 else if p.pass.dn = true then 13 else if p2.dn = true then 13 else E
def acS (p p2 : Pt) : Pt := if p.dn = true then p else if p.pass.dn = true then p.pass else p2
theorem aI.off {w w' : World} {q : Nat} {B : Bp} {p : Pt} {gv : Value} (L : aI q B p gv w w') : aE (fun k => k = q \/ B.own k) w w' := by obtain ⟨_, _, h, _⟩ := L; exact h
theorem lI {w w' : World} {q : Nat} {B : Bp} {p : Pt} {gv : Value} (H : aS w q B p gv) (ho : aE (fun k => k = q \/ B.own k) w w') {k : Nat} {cs : Array Value} {T : TypeId} {f : Nat × Nat} (h : w.heap[k]? = some (.cells cs T f)) (h1 : kO (T + 1) = false) (h2 : (T == qA) = false) : w'.heap[k]? = some (.cells cs T f) :=
 ho.at h fun e => by
  rcases e with e | e
  . exact aC h H.cell h2 e
  . have := H.bd.ownKd e; rw [aX h, h1] at this; cases this
theorem aBW (cv : Value) (q : Nat) (B : Bp) (p : Pt) (gv : Value) (m : Nat) (w : World) (H : aS w q B p gv) (ok : p.ok m) (hm : m < 4294967290) (h0 : p.dn = true) :
 Calls prog 68 #[.pointer (some ⟨q, 0, none⟩), cv] w fun e w' => e = .returned (.tuple #[.int .u32 0, .int .i64 13]) /\ aI q B p gv w w' := by
 have HD := Hd (jP q B p gv w H ok.td ok.se)
 rw [h0] at HD
 have HH := Hd H
 clear ok hm H h0
 go_enter func68, ntmps68
 go_wp2_with fail
 refine (HD.out).mono ?_
 rintro e w1 ⟨rfl, hb⟩
 have HX := Hd (HH.out.left hb)
 clear hb
 go_wp2_with fail
 go_ret2
 exact ⟨rfl, HX.out⟩
theorem aBX (cv : Value) (q : Nat) (B : Bp) (p : Pt) (gv : Value) (m : Nat) (w : World) (H : aS w q B p gv) (ok : p.ok m) (hm : m < 4294967290) (h0 : p.dn = false) (h1 : p.pass.dn = true) :
 Calls prog 68 #[.pointer (some ⟨q, 0, none⟩), cv] w fun e w' => e = .returned (.tuple #[.int .u32 0, .int .i64 13]) /\ aI q B p.pass gv w w' := by
 have HD := Hd (jP q B p gv w H ok.td ok.se)
 rw [h0] at HD
 have HP := Hd (fun w' h => xD q B p gv m w' h ok hm)
 have hpo := Pt.pass_ok ok H.bd.still hm
 have HD2 := Hd (fun w' ev' (h : aS w' q { B with ev := ev' } p.pass gv) => jP q { B with ev := ev' } p.pass gv w' h hpo.td hpo.se)
 rw [h1] at HD2
 have HH := Hd H
 clear hpo ok hm H h0 h1
 go_enter func68, ntmps68
 go_wp2_with fail
 refine (HD.out).mono ?_
 rintro e w1 ⟨rfl, hb⟩
 have HO := Hd (aE.ofBelow (S := fun k => k = q \/ B.own k) hb)
 have HH1 := Hd (HH.out.below hb)
 clear hb HD
 go_wp2_with fail
 refine (HP.out _ HH1.out).mono ?_
 rintro e w2 ⟨rfl, hL⟩
 have HL := Hd (aI.from HO.out hL)
 clear hL HH1 HO HP
 go_wp2_with fail
 obtain ⟨ev2, h2, ho2, he2⟩ := HL.out
 refine (HD2.out _ _ h2).mono ?_
 rintro e w3 ⟨rfl, hb⟩
 have HX := Hd (HL.out.below hb)
 have HH3 := Hd (h2.below hb)
 have HO3 := Hd (ho2.trans (aE.ofBelow hb))
 have HE3 := Hd he2
 clear hb h2 ho2 he2 HD2 HL
 go_wp2_with fail
 go_ret2
 exact ⟨rfl, HX.out⟩
theorem zZ (q : Nat) (B : Bp) (p : Pt) (gv : Value) (m : Nat) (x y : Nat) (V E : Int) (p2 : Pt) (w : World) (H : aS w q B p gv) (ok : p.ok m) (hm : m < 4294967290)
 (H2 : p.dn = false -> p.pass.dn = false -> p2.x.told /\ p2.se <= p2.x.es.length)
 (HF : Hid (∀ w1 ev1, p.dn = false -> p.pass.dn = false -> aE (fun k => k = q \/ B.own k) w w1 -> aS w1 q { B with ev := ev1 } p.pass gv -> Calls prog 69 #[.pointer (some ⟨x, 0, none⟩), .pointer (some ⟨y, 0, none⟩)] w1 fun e w' => e = .returned (.tuple #[.int .u32 V, .int .i64 E]) /\ aI q { B with ev := ev1 } p2 gv w1 w')) (D : Bool) (h0 : p.dn = false) (h1 : p.pass.dn = false) (h2 : p2.dn = D) :
 Calls prog 68 #[.pointer (some ⟨q, 0, none⟩), .func (.func 69) #[] #[.pointer (some ⟨x, 0, none⟩), .pointer (some ⟨y, 0, none⟩)]] w fun e w' => e = .returned (.tuple #[.int .u32 (cond D 0 V), .int .i64 (cond D 13 E)]) /\ aI q B p2 gv w w' := by
 cases D
 all_goals
  have HD := Hd (jP q B p gv w H ok.td ok.se)
  rw [h0] at HD
  have HP := Hd (fun w' h => xD q B p gv m w' h ok hm)
  have hpo := Pt.pass_ok ok H.bd.still hm
  have HD2 := Hd (fun w' ev' (h : aS w' q { B with ev := ev' } p.pass gv) => jP q { B with ev := ev' } p.pass gv w' h hpo.td hpo.se)
  rw [h1] at HD2
  have HH := Hd H
  have hq2 := H2 h0 h1
  have HFF := Hd (fun w1 ev1 => HF.out w1 ev1 h0 h1)
  have HD3 := Hd (fun w' C (h : aS w' q C p2 gv) => jP q C p2 gv w' h hq2.1 hq2.2)
  rw [h2] at HD3
  clear H2 HF hq2 h2
  clear hpo ok hm H h0 h1
  go_enter func68, ntmps68
  go_wp2_with fail
  refine (HD.out).mono ?_
  rintro e w1 ⟨rfl, hb⟩
  have HO := Hd (aE.ofBelow (S := fun k => k = q \/ B.own k) hb)
  have HH1 := Hd (HH.out.below hb)
  clear hb HD
  go_wp2_with fail
  refine (HP.out _ HH1.out).mono ?_
  rintro e w2 ⟨rfl, hL⟩
  have HL := Hd (aI.from HO.out hL)
  clear hL HH1 HO HP
  go_wp2_with fail
  obtain ⟨ev2, h2, ho2, he2⟩ := HL.out
  refine (HD2.out _ _ h2).mono ?_
  rintro e w3 ⟨rfl, hb⟩
  have HX := Hd (HL.out.below hb)
  have HH3 := Hd (h2.below hb)
  have HO3 := Hd (ho2.trans (aE.ofBelow hb))
  have HE3 := Hd he2
  clear hb h2 ho2 he2 HD2 HL
  go_wp2_with fail
  refine (HFF.out _ ev2 HO3.out HH3.out).mono ?_
  rintro e w4 ⟨rfl, hL⟩
  obtain ⟨ev4, h4, ho4, he4⟩ := hL
  have HX4 := Hd (aI.andThen HO3.out HE3.out ⟨ev4, h4, ho4, he4⟩)
  have HH4 := Hd h4
  clear h4 ho4 he4 HH3 HFF HX HO3 HE3
  go_wp2_with fail
  refine (HD3.out _ _ HH4.out).mono ?_
  rintro e w5 ⟨rfl, hb⟩
  have HX5 := Hd (HX4.out.below hb)
  clear hb HX4 HH4 HD3
  go_wp2_with fail
  go_ret2
  exact ⟨rfl, HX5.out⟩
theorem aBY (q : Nat) (B : Bp) (p : Pt) (gv : Value) (m : Nat) (x y : Nat) (V E : Int) (p2 : Pt) (w : World) (H : aS w q B p gv) (ok : p.ok m) (hm : m < 4294967290)
 (H2 : p.dn = false -> p.pass.dn = false -> p2.x.told /\ p2.se <= p2.x.es.length)
 (HF : Hid (∀ w1 ev1, p.dn = false -> p.pass.dn = false -> aE (fun k => k = q \/ B.own k) w w1 -> aS w1 q { B with ev := ev1 } p.pass gv -> Calls prog 69 #[.pointer (some ⟨x, 0, none⟩), .pointer (some ⟨y, 0, none⟩)] w1 fun e w' => e = .returned (.tuple #[.int .u32 V, .int .i64 E]) /\ aI q { B with ev := ev1 } p2 gv w1 w')) :
 Calls prog 68 #[.pointer (some ⟨q, 0, none⟩), .func (.func 69) #[] #[.pointer (some ⟨x, 0, none⟩), .pointer (some ⟨y, 0, none⟩)]] w fun e w' => e = .returned (.tuple #[.int .u32 (acV p p2 V), .int .i64 (acE p p2 E)]) /\ aI q B (acS p p2) gv w w' := by
 unfold acV acE acS
 cases h0 : p.dn
 . cases h1 : p.pass.dn
   . have := zZ q B p gv m x y V E p2 w H ok hm H2 HF _ h0 h1 rfl
     cases h2 : p2.dn <;> rw [h2] at this <;> exact this
   . exact aBX _ q B p gv m w H ok hm h0 h1
 . exact aBW _ q B p gv m w H ok hm h0
theorem sY (x y : Nat) (w : World) : Calls prog 68 #[.pointer none, .func (.func 69) #[] #[.pointer (some ⟨x, 0, none⟩), .pointer (some ⟨y, 0, none⟩)]] w fun e w' => e = .returned (.tuple #[.int .u32 0, .int .i64 1]) /\ Below w.heap.size w w' := by
 go_enter func68, ntmps68
 go_wp2_with fail
 go_ret2
 exact ⟨rfl, aV _⟩
abbrev tPp : TypeId := 26
def bxP (q : Nat) : Obj := .cells #[.pointer (some ⟨q, 0, none⟩)] tPp (0, 0)
def xY (a : Int) : Obj := .cells #[.int .u32 a] tU (0, 0)
theorem aAA (q : Nat) (C : Bp) (p : Pt) (gv : Value) (x y : Nat) (a : Int) (w : World) (H : aS w q C p gv) (hx : w.heap[x]? = some (bxP q)) (hy : w.heap[y]? = some (xY a)) (a0 : 0 <= a) (a1 : a < 4294967296) :
 Calls prog 69 #[.pointer (some ⟨x, 0, none⟩), .pointer (some ⟨y, 0, none⟩)] w fun e w' => e = .returned (.tuple #[.int .u32 (p.x.ldv C.n C.c a), .int .i64 (Bx.lde C.n C.c a)]) /\ Below w.heap.size w w' := by
 have HL := Hd (show ∀ w', aU w' C p.x -> _ from fun w' h => qI C p.x a w' h a0 a1)
 have HH := Hd H
 have cx := aA hx 0
 have cy := aA hy 0
 simp only [List.getElem?_toArray, List.getElem?_cons_zero] at cx cy
 have hlx := lt_of_block hx
 have hly := lt_of_block hy
 have c3 := H.c3
 have hq := H.lt
 have hg := bY
 clear H hx hy a0 a1
 go_enter func69, ntmps69
 go_upto_region 1 with (fail)
 refine wp_region_quiet_below (by kernel_rfl) (by kernel_rfl) ?_
 repeat (go_big_quiet_step (first | (go_at_call 70; exact Calls.regrown_of (HL.out _ (HH.out.bd.below (below_regrown w _ _))))))
 refine wpQuiet_nil ?_
 intro _ hw'
 obtain ⟨⟨dq, osq⟩, hw''⟩ := hw'
 subst hw''
 go_wp2_with fail
 go_ret2
 exact ⟨rfl, below_regrown w _ _⟩
theorem jZ (n c : Nat) (p : Pt) (a : Int) : acV p p.pass (p.pass.x.ldv n c a) = p.ldv n c a /\ acE p p.pass (Bx.lde n c a) = p.lde n c a /\ acS p p.pass = p.ldp := by
 unfold acV acE acS Pt.ldv Pt.lde Pt.ldp
 cases h0 : p.dn <;> cases h1 : p.pass.dn <;> simp
theorem tA (q : Nat) (B : Bp) (p : Pt) (gv : Value) (m : Nat) (a : Int) (w : World) (H : aS w q B p gv) (ok : p.ok m) (hm : m < 4294967290) (a0 : 0 <= a) (a1 : a < 4294967296) :
 Calls prog 32 #[.pointer (some ⟨q, 0, none⟩), .int .u32 a] w fun e w' => e = .returned (.tuple #[.int .u32 (p.ldv B.n B.c a), .int .i64 (p.lde B.n B.c a)]) /\ aI q B p.ldp gv w w' := by
 have hb := aO (aO (aV w) (bxP q)) (xY a)
 have hpo := Pt.pass_ok ok H.bd.still hm
 have hx := fZ w (bxP q) (xY a)
 have hy := eV w (bxP q) (xY a)
 have HH := H.below hb
 have HA := Hd (aBY q B p gv m w.heap.size (w.heap.size + 1) (p.pass.x.ldv B.n B.c a) (Bx.lde B.n B.c a) p.pass _ HH ok hm (fun _ _ => ⟨hpo.td, hpo.se⟩) (Hd fun w1 ev1 _ _ ho h => (aAA q { B with ev := ev1 } p.pass gv _ _ a w1 h (lI HH ho hx (by decide) rfl) (lI HH ho hy (by decide) rfl) a0 a1).mono fun e w' g => ⟨g.1, h.left g.2⟩))
 rw [(jZ B.n B.c p a).1, (jZ B.n B.c p a).2.1, (jZ B.n B.c p a).2.2] at HA
 have HO := Hd (aE.ofBelow (S := fun k => k = q \/ B.own k) hb)
 have cx := aA hx 0
 simp only [List.getElem?_toArray, List.getElem?_cons_zero] at cx
 clear HH hpo H ok hm a0 a1 hb hx hy
 go_enter func32, ntmps32
 go_upto_region 1 with (fail)
 rw [show Obj.cells #[.pointer (some ⟨q, 0, none⟩)] 26 (0, 0) = bxP q from rfl, show Obj.cells #[.int .u32 a] 27 (0, 0) = xY a from rfl]
 generalize (w.alloc (bxP q)).alloc (xY a) = W at *
 go_wp2_with fail
 refine (HA.out).mono ?_
 rintro e w1 ⟨rfl, hL⟩
 have HX := Hd (aI.from HO.out hL)
 clear hL
 go_wp2_with fail
 go_ret2
 exact ⟨rfl, HX.out⟩
theorem tB (a : Int) (w : World) : Calls prog 32 #[.pointer none, .int .u32 a] w fun e w' => e = .returned (.tuple #[.int .u32 0, .int .i64 1]) /\ Below w.heap.size w w' := by
 have hb := aO (aO (aV w) (.cells #[.pointer none] tPp (0, 0))) (xY a)
 go_enter func32, ntmps32
 go_wp2_with fail
 refine (sY _ _ _).mono ?_
 rintro e w1 ⟨rfl, hb1⟩
 go_wp2_with fail
 go_ret2
 exact ⟨rfl, tr hb hb1⟩
def uQ (q : Option Addr) : Value := .func (.func 32) #[.pointer q] #[]
theorem aI.then {w w' w'' : World} {q : Nat} {B : Bp} {p p2 : Pt} {gv : Value} (L : aI q B p gv w w') (h : ∀ ev1, aS w' q { B with ev := ev1 } p gv -> aI q { B with ev := ev1 } p2 gv w' w'') : aI q B p2 gv w w'' := by
 obtain ⟨ev', h1, ho, he⟩ := L
 exact aI.andThen ho he (h ev' h1)
section
variable {q : Nat} {B : Bp} {p : Pt} {gv : Value} {m : Nat} {w : World}
theorem aI.load {w0 : World} {p0 : Pt} (L : aI q B p gv w0 w) (ok : p.ok m) (hm : m < 4294967290) {a : Int} (a0 : 0 <= a) (a1 : a < 4294967296) :
 Calls prog 32 #[.pointer (some ⟨q, 0, none⟩), .int .u32 a] w fun e w' => e = .returned (.tuple #[.int .u32 (p.ldv B.n B.c a), .int .i64 (p.lde B.n B.c a)]) /\ aI q B p.ldp gv w0 w' := by
 obtain ⟨ev', h1, ho, he⟩ := L
 refine (tA q { B with ev := ev' } p gv m a w h1 ok hm a0 a1).mono ?_
 rintro e w' ⟨rfl, hL⟩
 exact ⟨rfl, aI.andThen ho he hL⟩
end
theorem qZ (q : Nat) (B : Bp) (p : Pt) (gv : Value) (m : Nat) (w0 w : World) (L : aI q B p gv w0 w) (ok : p.ok m) (hm : m < 4294967280) (hE : p.lde B.n B.c 33603576 = 13) :
 Calls prog 71 #[uQ (some ⟨q, 0, none⟩)] w fun e w' => e = .returned (.tuple #[.int .u32 0, .int .u32 0, .int .i64 13]) /\ aI q B p.ldp gv w0 w' := by
 have C1 := Hd (aI.load (p0 := p) L ok (by omega) (a := 33603576) (by decide) (by decide))
 rw [hE] at C1
 clear L ok hm hE
 unfold uQ
 go_enter func71, ntmps71
 go_wp2_with fail
 refine (C1.out).mono ?_
 rintro e w1 ⟨rfl, hL⟩
 have HL := Hd hL
 clear hL
 go_wp2_with fail
 go_ret3
 exact ⟨rfl, HL.out⟩
theorem lL (q : Nat) (B : Bp) (p : Pt) (gv : Value) (m : Nat) (w0 w : World) (L : aI q B p gv w0 w) (ok : p.ok m) (st : p.x.still) (hm : m < 4294967280) (V V2 E2 : Int) (hV : p.ldv B.n B.c 33603576 = V) (hE : p.lde B.n B.c 33603576 = 0) (hV2 : p.ldp.ldv B.n B.c 33603580 = V2) (hE2 : p.ldp.lde B.n B.c 33603580 = E2) :
 Calls prog 71 #[uQ (some ⟨q, 0, none⟩)] w fun e w' => e = .returned (.tuple #[.int .u32 V, .int .u32 V2, .int .i64 E2]) /\ aI q B p.ldp.ldp gv w0 w' := by
 have C1 := Hd (aI.load (p0 := p) L ok (by omega) (a := 33603576) (by decide) (by decide))
 have C2 := Hd (fun w' (h : aI q B p.ldp gv w0 w') => aI.load (p0 := p) h (Pt.ldp_ok ok st (by omega)) (by omega) (a := 33603580) (by decide) (by decide))
 rw [hV, hE] at C1
 rw [hV2, hE2] at C2
 clear L ok st hm hV hE hV2 hE2
 generalize p.ldp.ldp = p2 at *
 generalize p.ldp = p1 at *
 unfold uQ
 go_enter func71, ntmps71
 go_wp2_with fail
 refine (C1.out).mono ?_
 rintro e w1 ⟨rfl, hL⟩
 have HL := Hd hL
 clear hL
 go_wp2_with fail
 refine (C2.out _ HL.out).mono ?_
 rintro e w2 ⟨rfl, hL⟩
 have HL := Hd hL
 clear hL
 go_wp2_with fail
 go_ret3
 exact ⟨rfl, HL.out⟩
structure qF (n c m k : Nat) (p : Pt) (f : Int) (r : Rd) : Prop where
 e : p.rds n c k f = r
 po : p.ok m
 ok : p.x.ok n c
 st : p.x.still
 f0 : 0 <= f
 f1 : f < 4294967296
theorem qF.next {n c m k : Nat} {p : Pt} {f : Int} {r : Rd} (h : qF n c m (k + 1) p f r) (hm : m < 4294967270) (h1 : p.lde n c 33603576 = 0) (h2 : p.ldp.lde n c 33603580 = 0) (hf : f ≠ p.ldp.ldv n c 33603580) : qF n c (m + 2) k p.ldp.ldp (p.ldp.ldv n c 33603580) r := by
 obtain ⟨H1, ok1, st1⟩ := gX h.po h.ok h.st (by omega)
 obtain ⟨H2, ok2, st2⟩ := gX H1 ok1 st1 (by omega)
 have b2 := gY (a := 33603580) ok1 st1 H1 (.inl rfl)
 refine ⟨?_, H2, ok2, st2, b2.1, b2.2⟩
 rw [<- h.e, Pt.rds, if_pos h1, if_pos h2, if_neg hf]
theorem gD {n c : Nat} {p : Pt} {a : Int} (ha : a = 33603580 \/ a = 33603576) : p.lde n c a = 0 \/ p.lde n c a = 13 := by
 rcases ha with rfl | rfl
 . rw [zJ]; split
   . exact .inr rfl
   . exact .inl rfl
 . rw [zK]; split
   . exact .inr rfl
   . exact .inl rfl
theorem vB (q : Nat) (B : Bp) (p : Pt) (gv : Value) (m : Nat) (w : World) (H : aS w q B p gv) (ok : p.ok m) (hm : m < 4294967200) (he : p.lde B.n B.c 33603580 = 13) :
 Calls prog 33 #[uQ (some ⟨q, 0, none⟩)] w fun e w' => e = .returned (.tuple #[.int .u64 0, .int .i64 13]) /\ aI q B p.ldp gv w w' := by
 have C1 := Hd (tA q B p gv m 33603580 w H ok (by omega) (by decide) (by decide))
 rw [he] at C1
 clear H ok hm he
 unfold uQ
 go_enter func33, ntmps33
 go_wp2_with fail
 go_step3
 go_wp2_with fail
 refine (C1.out).mono ?_
 rintro e w1 ⟨rfl, hL⟩
 have HL := Hd hL
 clear hL
 go_wp2_with fail
 rw [Exit.noGoto_ret]
 go_ret2
 exact ⟨rfl, HL.out⟩
theorem vC (q : Nat) (B : Bp) (p : Pt) (gv : Value) (m : Nat) (w : World) (H : aS w q B p gv) (ok : p.ok m) (hm : m < 4294967200) (he : p.lde B.n B.c 33603580 = 0) (r : Rd) (hr : p.ldp.rds B.n B.c 4 (p.ldv B.n B.c 33603580) = r) :
 Calls prog 33 #[uQ (some ⟨q, 0, none⟩)] w fun e w' => e = .returned (.tuple #[.int .u64 r.v, .int .i64 r.e]) /\ aI q B r.p gv w w' := by
 have C1 := Hd (tA q B p gv m 33603580 w H ok (by omega) (by decide) (by decide))
 have k1 := gX ok H.bd.ok H.bd.still (by omega)
 have b1 := gY (a := 33603580) H.bd.ok H.bd.still ok (.inl rfl)
 have HR := Hd (show qF B.n B.c (m + 1) 4 p.ldp (p.ldv B.n B.c 33603580) r from ⟨hr, k1.1, k1.2.1, k1.2.2, b1.1, b1.2⟩)
 rw [he] at C1
 clear H ok he hr k1 b1
 generalize p.ldv B.n B.c 33603580 = f0 at *
 generalize p.ldp = p1 at *
 have hcl : uQ (some ⟨q, 0, none⟩) = .func (.func 32) #[.pointer (some ⟨q, 0, none⟩)] #[] := rfl
 rw [hcl]
 go_enter func33, ntmps33
 go_wp2_with fail
 go_step3
 go_wp2_with fail
 refine (C1.out).mono ?_
 rintro e w1 ⟨rfl, hL⟩
 have HL := Hd hL
 clear hL C1
 go_wp2_with fail
 go_step3
 go_wp2_with fail
 go_loopw [4, 6, 18] (fun u l i wr => ∃ (k : Nat) (f : Int) (p' : Pt), k <= 4 /\ i = .int .i64 k /\ u = .int .u32 f /\ l = .int .u32 0 /\ Hid (qF B.n B.c (m + 1 + 2 * k) (4 - k) p' f r) /\ Hid (aI q B p' gv w wr)) (fun u l i wr => 4 - (intOf i).toNat)
 case atStart => exact ⟨0, f0, p1, by omega, rfl, rfl, rfl, HR, HL⟩
 case round =>
  clear HR HL
  obtain ⟨k, f, p', hk, rfl, rfl, rfl, HR, HL⟩ := hrel
  by_cases hlt : k < 4
  . obtain ⟨j, hj⟩ : ∃ j, 4 - k = j + 1 := ⟨3 - k, by omega⟩
    rw [hj] at HR
    have hjm : m + 1 + 2 * k < 4294967270 := by omega
    have HRR := Hd HR.out
    rcases gD (n := B.n) (c := B.c) (p := p') (a := 33603576) (.inr rfl) with e1 | e1
    . obtain ⟨V, hV⟩ : ∃ V, p'.ldv B.n B.c 33603576 = V := ⟨_, rfl⟩
      obtain ⟨V2, hV2⟩ : ∃ V2, p'.ldp.ldv B.n B.c 33603580 = V2 := ⟨_, rfl⟩
      have b1 := gY (a := 33603576) HR.out.ok HR.out.st HR.out.po (.inr rfl)
      rw [hV] at b1
      rcases gD (n := B.n) (c := B.c) (p := p'.ldp) (a := 33603580) (.inl rfl) with e2 | e2
      . have CR := Hd (lL q B p' gv _ w wr HL.out HR.out.po HR.out.st (by omega) V V2 0 hV e1 hV2 e2)
        by_cases hf : f = V2
        . have er : r = ⟨p'.ldp.ldp, dB f V, 0⟩ := by rw [<- HR.out.e, Pt.rds, if_pos e1, if_pos e2, hV2, if_pos hf, hV]
          have f0 := HR.out.f0
          have f1 := HR.out.f1
          subst er
          clear HR HRR HL e1 e2 hV hV2
          subst hf
          have hff : (f == f) = true := beq_self_eq_true f
          have HB1 := Hd b1
          go_wp2_with fail
          refine (CR.out).mono ?_
          rintro e w2 ⟨rfl, hL⟩
          have HL := Hd hL
          clear hL CR
          go_wp2_with fail
          refine (aAj f V w2 f0 f1 HB1.out.1 HB1.out.2).mono ?_
          rintro e w3 ⟨rfl, rfl⟩
          go_wp2_with fail
          rw [Exit.noGoto_ret]
          go_ret2
          exact ⟨rfl, HL.out⟩
        . have HN := Hd (HR.out.next (by omega) e1 e2 (by rw [hV2]; exact hf))
          rw [hV2] at HN
          clear HR HRR HL e1 e2 hV hV2
          generalize p'.ldp.ldp = p2 at *
          have hff : (V2 == f) = false := by simp; omega
          clear hf b1
          go_wp2_with fail
          refine (CR.out).mono ?_
          rintro e w2 ⟨rfl, hL⟩
          have HL := Hd hL
          clear hL CR
          go_wp2_with fail
          go_roundw
          case rel => exact ⟨k + 1, V2, p2, by omega, by go_num, rfl, rfl, (by rw [show 4 - (k + 1) = j by omega, show m + 1 + 2 * (k + 1) = m + 1 + 2 * k + 2 by omega]; exact HN), HL⟩
          case measure => simp [intOf]; omega
      . have CR := Hd (lL q B p' gv _ w wr HL.out HR.out.po HR.out.st (by omega) V V2 13 hV e1 hV2 e2)
        have er : r = ⟨p'.ldp.ldp, 0, 13⟩ := by rw [<- HR.out.e, Pt.rds, if_pos e1, e2, if_neg (by decide)]
        subst er
        clear HR HRR HL e1 e2 hV hV2 b1
        go_wp2_with fail
        refine (CR.out).mono ?_
        rintro e w2 ⟨rfl, hL⟩
        have HL := Hd hL
        clear hL CR
        go_wp2_with fail
        rw [Exit.noGoto_ret]
        go_ret2
        exact ⟨rfl, HL.out⟩
    . have CR := Hd (qZ q B p' gv _ w wr HL.out HR.out.po (by omega) e1)
      have er : r = ⟨p'.ldp, 0, 13⟩ := by rw [<- HR.out.e, Pt.rds, e1, if_neg (by decide)]
      subst er
      clear HR HRR HL e1
      go_wp2_with fail
      refine (CR.out).mono ?_
      rintro e w2 ⟨rfl, hL⟩
      have HL := Hd hL
      clear hL CR
      go_wp2_with fail
      rw [Exit.noGoto_ret]
      go_ret2
      exact ⟨rfl, HL.out⟩
  . obtain rfl : k = 4 := by omega
    have er : r = ⟨p', dB f 0, 0⟩ := HR.out.e.symm
    have f0 := HR.out.f0
    have f1 := HR.out.f1
    subst er
    clear HR
    go_wp2_with fail
    refine (aAj f 0 wr f0 f1 (by decide) (by decide)).mono ?_
    rintro e w3 ⟨rfl, rfl⟩
    go_wp2_with fail
    rw [Exit.noGoto_ret]
    go_ret2
    exact ⟨rfl, HL.out⟩
def Kq (w w' : World) : Prop := ∀ (k : Nat) (cs : Array Value) (T : TypeId) (f : Nat × Nat), w.heap[k]? = some (.cells cs T f) -> kO (T + 1) = false -> (T == qA) = false -> w'.heap[k]? = some (.cells cs T f)
theorem Kq.refl (w : World) : Kq w w := fun _ _ _ _ h _ _ => h
theorem Kq.trans {a b c : World} (h : Kq a b) (g : Kq b c) : Kq a c := fun k cs T f hk hT hP => g k cs T f (h k cs T f hk hT hP) hT hP
theorem Kq.ofBelow {w w' : World} (hb : Below w.heap.size w w') : Kq w w' := fun _ _ _ _ h _ _ => aB hb h (lt_of_block h)
theorem Kq.ofOff {w w' : World} {r : Nat} {cs : Array Value} {T : TypeId} {f : Nat × Nat} (hr : w.heap[r]? = some (.cells cs T f)) (ho : aE (· = r) w w') (hT : (T == qA) = true \/ kO (T + 1) = true) : Kq w w' := fun k cs' T' f' hk h1 h2 =>
 ho.at hk fun e => by
  rw [e, hr] at hk
  cases hk
  rcases hT with h | h
  . rw [h2] at h; cases h
  . rw [h1] at h; cases h
structure Lp (s q : Nat) (B C : Bp) (p : Pt) (gv : Value) (w w' : World) : Prop where
 h : aS w' q C p gv
 nw : C.new s
 e : C.b = B.b
 n : C.n = B.n
 c : C.c = B.c
 d : C.div = B.div
 lo : Below s w w'
 kq : Kq w w'
section
variable {w w' w'' : World} {s q : Nat} {B C : Bp} {p p0 : Pt} {gv gv0 : Value}
theorem aI.kq (H : aS w q B p0 gv0) (L : aI q B p gv w w') : Kq w w' := fun k cs T f hk hT hP => L.off.at hk fun e => by
 rcases e with e | e
 . rw [e, H.cell] at hk; cases hk; cases hP
 . have := H.bd.ownKd e; rw [aX hk, hT] at this; cases this
theorem aI.lp (H : aS w q B p0 gv0) (L : aI q B p gv w w') (h : B.new s) (hq : s <= q) (hs : s <= w.heap.size) : ∃ C, Lp s q B C p gv w w' := by
 have K := L.kq H
 obtain ⟨ev', H1, ho, he⟩ := L
 exact ⟨{ B with ev := ev' }, H1, sI h hs he, rfl, rfl, rfl, rfl, ho.below (fun k hk ho => by
  rcases ho with e | e
  . omega
  . have := h k (.inl e); omega) hs, K⟩
theorem fT.kq {t : Nat} {v : Value} {gs : List Int} (h : fT t w v gs) (K : Kq w w') (lo : Below t w w') : fT t w' v gs := h.keep lo.size fun k hk hg => by
 rcases hg with hg | hg
 . exact lo.block k hg
 . unfold kd at hg
   cases e : w.heap[k]? with
   | none => rw [e] at hg; exact absurd (show gK 0 = true from hg) (by decide)
   | some o =>
     rw [e] at hg
     cases o with
     | cells cs T f =>
       have h1 := kE hg
       exact K k cs T f e h1.1 (by
        cases h2 : (T == qA)
        . rfl
        . exact absurd (by rw [beq_iff_eq.1 h2]) h1.2.2)
     | _ => exact absurd (show gK 0 = true from hg) (by decide)
end
theorem xH (d : Int) : (qL d).told := rfl
theorem aAB {m : Nat} (x : Bx) (gs : List Int) (ht : x.told) (hm : x.es.length <= m) (hl : gs.length <= 64) (hg : ∀ g ∈ gs, 0 <= g /\ g < 4294967296) : (pt0 x gs).ok m :=
 ⟨ht, Nat.le_refl _, hm, Nat.zero_le _, Int.le_refl _, (by show (0 : Int) <= ((0 : Nat) : Int) * 4294967295; omega), hl, hg⟩
theorem yG (q : Nat) (B : Bp) (p : Pt) (gv : Value) (m : Nat) (w : World) (H : aS w q B p gv) (ok : p.ok m) (hm : m < 4294967200) :
 Calls prog 33 #[uQ (some ⟨q, 0, none⟩)] w fun e w' => e = .returned (.tuple #[.int .u64 (p.rd B.n B.c).v, .int .i64 (p.rd B.n B.c).e]) /\ aI q B (p.rd B.n B.c).p gv w w' := by
 rcases gD (n := B.n) (c := B.c) (p := p) (a := 33603580) (.inl rfl) with h | h
 . have e : p.rd B.n B.c = p.ldp.rds B.n B.c 4 (p.ldv B.n B.c 33603580) := by unfold Pt.rd; rw [if_pos h]
   exact vC q B p gv m w H ok hm h _ e.symm
 . have e : p.rd B.n B.c = ⟨p.ldp, 0, 13⟩ := by unfold Pt.rd; rw [h, if_neg (by decide)]
   rw [e]
   exact vB q B p gv m w H ok hm h
theorem yF (q : Nat) (B : Bp) (p : Pt) (gv : Value) (m : Nat) (w : World) (H : aS w q B p gv) (ok : p.ok m) (hm : m < 4294967200) :
 Calls prog 11 #[.pointer (some ⟨q, 0, none⟩)] w fun e w' => e = .returned (.tuple #[.int .u64 (p.rd B.n B.c).v, .int .i64 (p.rd B.n B.c).e]) /\ aI q B (p.rd B.n B.c).p gv w w' := by
 have HT := Hd (yG q B p gv m w H ok hm)
 rw [show uQ (some ⟨q, 0, none⟩) = .func (.func 32) #[.pointer (some ⟨q, 0, none⟩)] #[] from rfl] at HT
 clear H ok hm
 generalize p.rd B.n B.c = r at *
 go_enter func11, ntmps11
 go_wp2_with fail
 refine (HT.out).mono ?_
 rintro e w1 ⟨rfl, hL⟩
 have HL := Hd hL
 clear hL HT
 go_wp2_with fail
 go_ret2
 exact ⟨rfl, HL.out⟩
theorem oX (w : World) : Calls prog 33 #[.func (.func 32) #[.pointer none] #[]] w fun e w' => e = .returned (.tuple #[.int .u64 0, .int .i64 1]) /\ Below w.heap.size w w' := by
 go_enter func33, ntmps33
 go_wp2_with fail
 go_step3
 go_wp2_with fail
 refine (tB _ w).mono ?_
 rintro e w1 ⟨rfl, hb⟩
 go_wp2_with fail
 rw [Exit.noGoto_ret]
 go_ret2
 exact ⟨rfl, hb⟩
theorem jK (w : World) : Calls prog 11 #[.pointer none] w fun e w' => e = .returned (.tuple #[.int .u64 0, .int .i64 1]) /\ Below w.heap.size w w' := by
 go_enter func11, ntmps11
 go_wp2_with fail
 refine (oX w).mono ?_
 exact eJ
theorem mQ (d : Int) (w : World) : Calls prog 15 #[.pointer none, .int .u64 d] w fun e w' => e = .returned (.tuple #[.int .u64 0, .int .i64 1]) /\ Below w.heap.size w w' := by
 go_enter func15, ntmps15
 go_wp2_with fail
 refine (jK w).mono ?_
 exact eJ
theorem qY (w : World) : Calls prog 8 #[.pointer none] w fun e w' => e = .returned (.pointer none) /\ w = w' := by
 go_enter func8, ntmps8
 exact aL
theorem oW (w : World) : Calls prog 9 #[.pointer none] w fun e w' => e = .returned (.int .u64 0) /\ w = w' := by
 go_enter func9, ntmps9
 exact aL
theorem lK (w : World) : Calls prog 12 #[.pointer none] w fun e w' => e = .returned (.tuple #[.int .u64 0, .int .i64 1]) /\ w = w' := by
 go_enter func12, ntmps12
 exact cW
theorem mP (d : Int) (w : World) : Calls prog 13 #[.pointer none, .int .u64 d] w fun e w' => e = .returned (.tuple #[.int .u64 0, .int .i64 1]) /\ w = w' := by
 go_enter func13, ntmps13
 go_wp2_with fail
 refine (lK w).mono ?_
 rintro e w1 ⟨rfl, rfl⟩
 exact cW
def kc0 : Pt := pt0 (qL 1) [0, 1, 0]
def xA : Pt := kc0.tk 4294967295
theorem aCH : ∀ g ∈ ([0, 1, 0] : List Int), 0 <= g /\ g < 4294967296 := by
 intro g h
 simp only [List.mem_cons, List.not_mem_nil, or_false] at h
 omega
theorem aBH : kc0.ok 0 := aAB _ _ (xH 1) (Nat.le_refl _) (by decide) aCH
theorem aCJ : (xA.rd 1 1).v = 4294967296 := by decide +kernel
theorem aCG : (xA.rd 1 1).e = 0 := by decide +kernel
theorem aCI : (xA.rd 1 1).p.md = 5 := by decide +kernel
theorem vA (w : World) : Calls prog 18 #[] w fun e w' => e = .returned (.bool true) /\ Below w.heap.size w w' := by
 have HNW := Hd (aAu 1 1 1 w (by decide) (by decide) (by decide) (by decide) (by decide) (by decide))
 go_enter func18, ntmps18
 go_wp2_with fail
 refine (HNW.out).mono ?_
 rintro e w1 ⟨B, rfl, h1, hb, h3, h7, h8, h9⟩
 have HH := Hd h1
 have HB := Hd hb
 have HNE := Hd h3
 have HN := Hd (And.intro h7 h8)
 clear h1 hb h3 h7 h8 h9 HNW
 go_wp2_with fail
 have hbx := aO (aV w1) (.cells #[.int .u32 0, .int .u32 1, .int .u32 0] tU (0, 0))
 have hga : fT 0 (w1.alloc (.cells #[.int .u32 0, .int .u32 1, .int .u32 0] tU (0, 0))) (.slice (some ⟨w1.heap.size, 0, none⟩) 3 3) [0, 1, 0] :=
  ⟨_, _, rfl, Nat.le_refl _, by unfold maxLen; decide, .inr ⟨_, 0, rfl, lt_of_block (aD w1 _), .inr (by rw [aX (aD w1 _)]; decide), fun i g hi => by
   rw [aA (aD w1 _)]
   match i, hi with
   | 0, hi => simp at hi; subst hi; rfl
   | 1, hi => simp at hi; subst hi; rfl
   | 2, hi => simp at hi; subst hi; rfl
   | i + 3, hi => simp at hi⟩⟩
 refine (aCW B (qL 1) 0 _ [0, 1, 0] _ (HH.out.below hbx) (xH 1) hga (by decide)).mono ?_
 rintro e w2 ⟨q, gv, rfl, hq, hp, hb⟩
 have HQ := Hd (show w.heap.size <= q from Nat.le_trans (tr HB.out hbx).size hq)
 have HB := Hd (tr HB.out (tr hbx hb))
 have HH := Hd (show aS w2 q B kc0 gv from hp)
 clear hbx hga hq hp hb
 go_wp2_with fail
 refine (qJ B kc0.x 4294967295 w2 HH.out.bd (by decide) (by decide) (by decide)).mono ?_
 rintro e w3 ⟨rfl, hT⟩
 have hL := HH.out.board hT
 obtain ⟨C1, LC⟩ := hL.lp HH.out HNE.out HQ.out HB.out.size
 have HOK := Hd (show xA.ok 1 from Pt.tk_ok aBH HH.out.bd.still (by decide) _)
 have HH := Hd (show aS w3 q C1 xA gv from LC.h)
 have HB := Hd (HB.out.trans LC.lo)
 have HN := Hd (And.intro (LC.n.trans HN.out.1) (LC.c.trans HN.out.2))
 have HNE := Hd LC.nw
 clear hL LC hT
 go_wp2_with fail
 have HT := Hd (yF q C1 xA gv 1 w3 HH.out HOK.out (by decide))
 rw [HN.out.1, HN.out.2, aCJ, aCG] at HT
 refine (HT.out).mono ?_
 rintro e w4 ⟨rfl, hL⟩
 obtain ⟨C2, LC⟩ := hL.lp HH.out HNE.out HQ.out HB.out.size
 have HH := Hd LC.h
 have HB := Hd (HB.out.trans LC.lo)
 clear hL LC HT
 have HT := Hd (fun w' h => aBZ q C2 (xA.rd 1 1).p gv w' h)
 rw [aCI] at HT
 generalize (xA.rd 1 1).p = pe at *
 go_wp2_with (go_at_call 22; refine (HT.out _ HH.out).mono ?_; rintro e w5 ⟨rfl, hb⟩; have HB := Hd (tr HB.out hb); clear hb)
 go_ret
 exact ⟨rfl, HB.out⟩
theorem rA (d : Int) (w : World) :
 Calls prog 6 #[.int .u64 d] w fun e w' => e = .returned (.bool true) /\ Below w.heap.size w w' := by
 have HB := Hd (aV w)
 go_enter func6, ntmps6
 go_wp2_with (first
  | (go_at_call 11; refine (jK _).mono ?_; rintro e w1 ⟨rfl, hb⟩; have HB := Hd (tr HB.out hb); clear hb)
  | (go_at_call 15; refine (mQ _ _).mono ?_; rintro e w1 ⟨rfl, hb⟩; have HB := Hd (tr HB.out hb); clear hb)
  | (go_at_call 12; refine (lK _).mono ?_; rintro e w1 ⟨rfl, rfl⟩)
  | (go_at_call 13; refine (mP _ _).mono ?_; rintro e w1 ⟨rfl, rfl⟩)
  | (go_at_call 9; refine (oW _).mono ?_; rintro e w1 ⟨rfl, rfl⟩)
  | (go_at_call 8; refine (qY _).mono ?_; rintro e w1 ⟨rfl, rfl⟩)
  | (go_at_call 18; refine (vA _).mono ?_; rintro e w1 ⟨rfl, hb⟩; have HB := Hd (tr HB.out hb); clear hb))
 go_ret
 exact ⟨rfl, HB.out⟩
theorem wClockNil (v0 : Value) (w : World) (h0 : FitsV w (.int .u64) v0) :
 Calls prog 6 #[v0] w fun e w' => e = .returned (.bool true) /\ Below w.heap.size w w' := by
 obtain ⟨a, rfl, _, _⟩ := fits_u64 h0
 exact rA a w
end Go.Proofs.YtealhichdbimlaaGreat.B
