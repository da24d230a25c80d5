/- A part of the proof of a law of layer 12: az. -/
import Derived.Test.YtealhichdbimlaaGreatZCay
import Derived.OwnWalk
set_option linter.unusedVariables false
set_option linter.unusedSimpArgs false
set_option maxHeartbeats 12800000
set_option maxRecDepth 100000
namespace Go.Proofs.YtealhichdbimlaaGreat.B
open Go.Proofs.Tryz
open List renaming getElem?_toArray -> y0q
open Go.ChangeShapes Go.WideShapes Go.RowKit Go.Sort
def clo (q : Option Addr) : Value := .func (.func 32) #[.pointer q] #[]
theorem aS.then {w w' w'' : World} {q : Nat} {B : Bp} {p p2 : Pt} {gv : Value} (L : aS q B p gv w w') (h : ∀ ev1, aV w' q { B with ev := ev1 } p gv -> aS q { B with ev := ev1 } p2 gv w' w'') : aS q B p2 gv w w'' := by
 obtain ⟨ev', h1, ho, he⟩ := L
 exact aS.andThen ho he (h ev' h1)
section
variable {q : Nat} {B : Bp} {p : Pt} {gv : Value} {m : Nat} {w : World}
theorem aS.load {w0 : World} {p0 : Pt} (L : aS q B p gv w0 w) (ok : p.ok m) (hm : m < 4294967290) {a : Int} (a0 : 0 <= a) (a1 : a < 4294967296) :
 Calls prog 32 #[.pointer (some ⟨q, 0, none⟩), .int .u32 a] w fun e w' => e = .returned (.tuple #[.int .u32 (p.ldv B.n B.c a), .int .i64 (p.lde B.n B.c a)]) /\ aS q B p.ldp gv w0 w' := by
 obtain ⟨ev', h1, ho, he⟩ := L
 refine (aDs q { B with ev := ev' } p gv m a w h1 ok hm a0 a1).mono ?_
 rintro e w' ⟨rfl, hL⟩
 exact ⟨rfl, aS.andThen ho he hL⟩
end
theorem aFh (q : Nat) (B : Bp) (p : Pt) (gv : Value) (m : Nat) (w0 w : World) (L : aS q B p gv w0 w) (ok : p.ok m) (hm : m < 4294967280) (hE : p.lde B.n B.c 33603576 = 13) :
 Calls prog 71 #[clo (some ⟨q, 0, none⟩)] w fun e w' => e = .returned (.tuple #[.int .u32 0, .int .u32 0, .int .i64 13]) /\ aS q B p.ldp gv w0 w' := by
 have C1 := Hd (aS.load (p0 := p) L ok (by omega) (a := 33603576) (by decide) (by decide))
 rw [hE] at C1
 clear L ok hm hE
 unfold clo
 go_enter func71, ntmps71
 go_wp2_with fail
 refine (C1.out).mono ?_
 rintro e w1 ⟨rfl, hL⟩
 have HL := Hd hL
 clear hL
 go_wp2_with fail
 go_ret3
 exact ⟨rfl, HL.out⟩
theorem aAn (q : Nat) (B : Bp) (p : Pt) (gv : Value) (m : Nat) (w0 w : World) (L : aS q B p gv w0 w) (ok : p.ok m) (st : p.x.still) (hm : m < 4294967280) (V V2 E2 : Int) (hV : p.ldv B.n B.c 33603576 = V) (hE : p.lde B.n B.c 33603576 = 0) (hV2 : p.ldp.ldv B.n B.c 33603580 = V2) (hE2 : p.ldp.lde B.n B.c 33603580 = E2) :
 Calls prog 71 #[clo (some ⟨q, 0, none⟩)] w fun e w' => e = .returned (.tuple #[.int .u32 V, .int .u32 V2, .int .i64 E2]) /\ aS q B p.ldp.ldp gv w0 w' := by
 have C1 := Hd (aS.load (p0 := p) L ok (by omega) (a := 33603576) (by decide) (by decide))
 have C2 := Hd (fun w' (h : aS q B p.ldp gv w0 w') => aS.load (p0 := p) h (Pt.ldp_ok ok st (by omega)) (by omega) (a := 33603580) (by decide) (by decide))
 rw [hV, hE] at C1
 rw [hV2, hE2] at C2
 clear L ok st hm hV hE hV2 hE2
 generalize p.ldp.ldp = p2 at *
 generalize p.ldp = p1 at *
 unfold clo
 go_enter func71, ntmps71
 go_wp2_with fail
 refine (C1.out).mono ?_
 rintro e w1 ⟨rfl, hL⟩
 have HL := Hd hL
 clear hL
 go_wp2_with fail
 refine (C2.out _ HL.out).mono ?_
 rintro e w2 ⟨rfl, hL⟩
 have HL := Hd hL
 clear hL
 go_wp2_with fail
 go_ret3
 exact ⟨rfl, HL.out⟩
structure aBy (n c m k : Nat) (p : Pt) (f : Int) (r : Rd) : Prop where
 e : p.rds n c k f = r
 po : p.ok m
 ok : p.x.ok n c
 st : p.x.still
 f0 : 0 <= f
 f1 : f < 4294967296
theorem aBy.next {n c m k : Nat} {p : Pt} {f : Int} {r : Rd} (h : aBy n c m (k + 1) p f r) (hm : m < 4294967270) (h1 : p.lde n c 33603576 = 0) (h2 : p.ldp.lde n c 33603580 = 0) (hf : f ≠ p.ldp.ldv n c 33603580) : aBy n c (m + 2) k p.ldp.ldp (p.ldp.ldv n c 33603580) r := by
 obtain ⟨H1, ok1, st1⟩ := fO h.po h.ok h.st (by omega)
 obtain ⟨H2, ok2, st2⟩ := fO H1 ok1 st1 (by omega)
 have b2 := jD (a := 33603580) ok1 st1 H1 (.inl rfl)
 refine ⟨?_, H2, ok2, st2, b2.1, b2.2⟩
 rw [<- h.e, Pt.rds, if_pos h1, if_pos h2, if_neg hf]
theorem jY {n c : Nat} {p : Pt} {a : Int} (ha : a = 33603580 \/ a = 33603576) : p.lde n c a = 0 \/ p.lde n c a = 13 := by
 rcases ha with rfl | rfl
 . rw [mP]; split
   . exact .inr rfl
   . exact .inl rfl
 . rw [zX]; split
   . exact .inr rfl
   . exact .inl rfl
theorem aIK (q : Nat) (B : Bp) (p : Pt) (gv : Value) (m : Nat) (w : World) (H : aV w q B p gv) (ok : p.ok m) (hm : m < 4294967200) (he : p.lde B.n B.c 33603580 = 13) :
 Calls prog 33 #[clo (some ⟨q, 0, none⟩)] w fun e w' => e = .returned (.tuple #[.int .u64 0, .int .i64 13]) /\ aS q B p.ldp gv w w' := by
 have C1 := Hd (aDs q B p gv m 33603580 w H ok (by omega) (by decide) (by decide))
 rw [he] at C1
 clear H ok hm he
 unfold clo
 go_enter func33, ntmps33
 go_wp2_with fail
 go_step3
 go_wp2_with fail
 refine (C1.out).mono ?_
 rintro e w1 ⟨rfl, hL⟩
 have HL := Hd hL
 clear hL
 go_wp2_with fail
 rw [Exit.noGoto_ret]
 go_ret2
 exact ⟨rfl, HL.out⟩
theorem aIL (q : Nat) (B : Bp) (p : Pt) (gv : Value) (m : Nat) (w : World) (H : aV w q B p gv) (ok : p.ok m) (hm : m < 4294967200) (he : p.lde B.n B.c 33603580 = 0) (r : Rd) (hr : p.ldp.rds B.n B.c 4 (p.ldv B.n B.c 33603580) = r) :
 Calls prog 33 #[clo (some ⟨q, 0, none⟩)] w fun e w' => e = .returned (.tuple #[.int .u64 r.v, .int .i64 r.e]) /\ aS q B r.p gv w w' := by
 have C1 := Hd (aDs q B p gv m 33603580 w H ok (by omega) (by decide) (by decide))
 have k1 := fO ok H.bd.ok H.bd.still (by omega)
 have b1 := jD (a := 33603580) H.bd.ok H.bd.still ok (.inl rfl)
 have HR := Hd (show aBy B.n B.c (m + 1) 4 p.ldp (p.ldv B.n B.c 33603580) r from ⟨hr, k1.1, k1.2.1, k1.2.2, b1.1, b1.2⟩)
 rw [he] at C1
 clear H ok he hr k1 b1
 generalize p.ldv B.n B.c 33603580 = f0 at *
 generalize p.ldp = p1 at *
 have hcl : clo (some ⟨q, 0, none⟩) = .func (.func 32) #[.pointer (some ⟨q, 0, none⟩)] #[] := rfl
 rw [hcl]
 go_enter func33, ntmps33
 go_wp2_with fail
 go_step3
 go_wp2_with fail
 refine (C1.out).mono ?_
 rintro e w1 ⟨rfl, hL⟩
 have HL := Hd hL
 clear hL C1
 go_wp2_with fail
 go_step3
 go_wp2_with fail
 go_loopw [4, 6, 18] (fun u l i wr => ∃ (k : Nat) (f : Int) (p' : Pt), k <= 4 /\ i = .int .i64 k /\ u = .int .u32 f /\ l = .int .u32 0 /\ Hid (aBy B.n B.c (m + 1 + 2 * k) (4 - k) p' f r) /\ Hid (aS q B p' gv w wr)) (fun u l i wr => 4 - (intOf i).toNat)
 case atStart => exact ⟨0, f0, p1, by omega, rfl, rfl, rfl, HR, HL⟩
 case round =>
  clear HR HL
  obtain ⟨k, f, p', hk, rfl, rfl, rfl, HR, HL⟩ := hrel
  by_cases hlt : k < 4
  . obtain ⟨j, hj⟩ : ∃ j, 4 - k = j + 1 := ⟨3 - k, by omega⟩
    rw [hj] at HR
    have hjm : m + 1 + 2 * k < 4294967270 := by omega
    have HRR := Hd HR.out
    rcases jY (n := B.n) (c := B.c) (p := p') (a := 33603576) (.inr rfl) with e1 | e1
    . obtain ⟨V, hV⟩ : ∃ V, p'.ldv B.n B.c 33603576 = V := ⟨_, rfl⟩
      obtain ⟨V2, hV2⟩ : ∃ V2, p'.ldp.ldv B.n B.c 33603580 = V2 := ⟨_, rfl⟩
      have b1 := jD (a := 33603576) HR.out.ok HR.out.st HR.out.po (.inr rfl)
      rw [hV] at b1
      rcases jY (n := B.n) (c := B.c) (p := p'.ldp) (a := 33603580) (.inl rfl) with e2 | e2
      . have CR := Hd (aAn q B p' gv _ w wr HL.out HR.out.po HR.out.st (by omega) V V2 0 hV e1 hV2 e2)
        by_cases hf : f = V2
        . have er : r = ⟨p'.ldp.ldp, bQ f V, 0⟩ := by rw [<- HR.out.e, Pt.rds, if_pos e1, if_pos e2, hV2, if_pos hf, hV]
          have f0 := HR.out.f0
          have f1 := HR.out.f1
          subst er
          clear HR HRR HL e1 e2 hV hV2
          subst hf
          have hff : (f == f) = true := beq_self_eq_true f
          have HB1 := Hd b1
          go_wp2_with fail
          refine (CR.out).mono ?_
          rintro e w2 ⟨rfl, hL⟩
          have HL := Hd hL
          clear hL CR
          go_wp2_with fail
          refine (aBx f V w2 f0 f1 HB1.out.1 HB1.out.2).mono ?_
          rintro e w3 ⟨rfl, rfl⟩
          go_wp2_with fail
          rw [Exit.noGoto_ret]
          go_ret2
          exact ⟨rfl, HL.out⟩
        . have HN := Hd (HR.out.next (by omega) e1 e2 (by rw [hV2]; exact hf))
          rw [hV2] at HN
          clear HR HRR HL e1 e2 hV hV2
          generalize p'.ldp.ldp = p2 at *
          have hff : (V2 == f) = false := by simp; omega
          clear hf b1
          go_wp2_with fail
          refine (CR.out).mono ?_
          rintro e w2 ⟨rfl, hL⟩
          have HL := Hd hL
          clear hL CR
          go_wp2_with fail
          go_roundw
          case rel => exact ⟨k + 1, V2, p2, by omega, by go_num, rfl, rfl, (by rw [show 4 - (k + 1) = j by omega, show m + 1 + 2 * (k + 1) = m + 1 + 2 * k + 2 by omega]; exact HN), HL⟩
          case measure => simp [intOf]; omega
      . have CR := Hd (aAn q B p' gv _ w wr HL.out HR.out.po HR.out.st (by omega) V V2 13 hV e1 hV2 e2)
        have er : r = ⟨p'.ldp.ldp, 0, 13⟩ := by rw [<- HR.out.e, Pt.rds, if_pos e1, e2, if_neg (by decide)]
        subst er
        clear HR HRR HL e1 e2 hV hV2 b1
        go_wp2_with fail
        refine (CR.out).mono ?_
        rintro e w2 ⟨rfl, hL⟩
        have HL := Hd hL
        clear hL CR
        go_wp2_with fail
        rw [Exit.noGoto_ret]
        go_ret2
        exact ⟨rfl, HL.out⟩
    . have CR := Hd (aFh q B p' gv _ w wr HL.out HR.out.po (by omega) e1)
      have er : r = ⟨p'.ldp, 0, 13⟩ := by rw [<- HR.out.e, Pt.rds, e1, if_neg (by decide)]
      subst er
      clear HR HRR HL e1
      go_wp2_with fail
      refine (CR.out).mono ?_
      rintro e w2 ⟨rfl, hL⟩
      have HL := Hd hL
      clear hL CR
      go_wp2_with fail
      rw [Exit.noGoto_ret]
      go_ret2
      exact ⟨rfl, HL.out⟩
  . obtain rfl : k = 4 := by omega
    have er : r = ⟨p', bQ f 0, 0⟩ := HR.out.e.symm
    have f0 := HR.out.f0
    have f1 := HR.out.f1
    subst er
    clear HR
    go_wp2_with fail
    refine (aBx f 0 wr f0 f1 (by decide) (by decide)).mono ?_
    rintro e w3 ⟨rfl, rfl⟩
    go_wp2_with fail
    rw [Exit.noGoto_ret]
    go_ret2
    exact ⟨rfl, HL.out⟩
def Kq (w w' : World) : Prop := ∀ (k : Nat) (cs : Array Value) (T : TypeId) (f : Nat × Nat), w.heap[k]? = some (.cells cs T f) -> aAH (T + 1) = false -> (T == tPt) = false -> w'.heap[k]? = some (.cells cs T f)
theorem Kq.refl (w : World) : Kq w w := fun _ _ _ _ h _ _ => h
theorem Kq.trans {a b c : World} (h : Kq a b) (g : Kq b c) : Kq a c := fun k cs T f hk hT hP => g k cs T f (h k cs T f hk hT hP) hT hP
theorem Kq.ofBelow {w w' : World} (hb : Below w.heap.size w w') : Kq w w' := fun _ _ _ _ h _ _ => aC hb h (lt_of_block h)
theorem Kq.ofOff {w w' : World} {r : Nat} {cs : Array Value} {T : TypeId} {f : Nat × Nat} (hr : w.heap[r]? = some (.cells cs T f)) (ho : aF (· = r) w w') (hT : (T == tPt) = true \/ aAH (T + 1) = true) : Kq w w' := fun k cs' T' f' hk h1 h2 =>
 ho.at hk fun e => by
  rw [e, hr] at hk
  cases hk
  rcases hT with h | h
  . rw [h2] at h; cases h
  . rw [h1] at h; cases h
structure Lp (s q : Nat) (B C : Bp) (p : Pt) (gv : Value) (w w' : World) : Prop where
 h : aV w' q C p gv
 nw : C.new s
 e : C.b = B.b
 n : C.n = B.n
 c : C.c = B.c
 d : C.div = B.div
 lo : Below s w w'
 kq : Kq w w'
section
variable {w w' w'' : World} {s q : Nat} {B C : Bp} {p p0 : Pt} {gv gv0 : Value}
theorem aS.kq (H : aV w q B p0 gv0) (L : aS q B p gv w w') : Kq w w' := fun k cs T f hk hT hP => L.off.at hk fun e => by
 rcases e with e | e
 . rw [e, H.cell] at hk; cases hk; cases hP
 . have := H.bd.ownKd e; rw [bM hk, hT] at this; cases this
theorem aS.lp (H : aV w q B p0 gv0) (L : aS q B p gv w w') (h : B.new s) (hq : s <= q) (hs : s <= w.heap.size) : ∃ C, Lp s q B C p gv w w' := by
 have K := L.kq H
 obtain ⟨ev', H1, ho, he⟩ := L
 exact ⟨{ B with ev := ev' }, H1, aA7 h hs he, rfl, rfl, rfl, rfl, ho.below (fun k hk ho => by
  rcases ho with e | e
  . omega
  . have := h k (.inl e); omega) hs, K⟩
theorem jU.kq {t : Nat} {v : Value} {gs : List Int} (h : jU t w v gs) (K : Kq w w') (lo : Below t w w') : jU t w' v gs := h.keep lo.size fun k hk hg => by
 rcases hg with hg | hg
 . exact lo.block k hg
 . unfold kd at hg
   cases e : w.heap[k]? with
   | none => rw [e] at hg; exact absurd (show gK 0 = true from hg) (by decide)
   | some o =>
     rw [e] at hg
     cases o with
     | cells cs T f =>
       have h1 := tQ hg
       exact K k cs T f e h1.1 (by
        cases h2 : (T == tPt)
        . rfl
        . exact absurd (by rw [beq_iff_eq.1 h2]) h1.2.2)
     | _ => exact absurd (show gK 0 = true from hg) (by decide)
end
theorem aHj (d : Int) : (oN d).told := rfl
theorem aMc {m : Nat} (x : Bx) (gs : List Int) (ht : x.told) (hm : x.es.length <= m) (hl : gs.length <= 64) (hg : ∀ g ∈ gs, 0 <= g /\ g < 4294967296) : (pt0 x gs).ok m :=
 ⟨ht, Nat.le_refl _, hm, Nat.zero_le _, Int.le_refl _, (by show (0 : Int) <= ((0 : Nat) : Int) * 4294967295; omega), hl, hg⟩
theorem aLM (q : Nat) (B : Bp) (p : Pt) (gv : Value) (m : Nat) (w : World) (H : aV w q B p gv) (ok : p.ok m) (hm : m < 4294967200) :
 Calls prog 33 #[clo (some ⟨q, 0, none⟩)] w fun e w' => e = .returned (.tuple #[.int .u64 (p.rd B.n B.c).v, .int .i64 (p.rd B.n B.c).e]) /\ aS q B (p.rd B.n B.c).p gv w w' := by
 rcases jY (n := B.n) (c := B.c) (p := p) (a := 33603580) (.inl rfl) with h | h
 . have e : p.rd B.n B.c = p.ldp.rds B.n B.c 4 (p.ldv B.n B.c 33603580) := by unfold Pt.rd; rw [if_pos h]
   exact aIL q B p gv m w H ok hm h _ e.symm
 . have e : p.rd B.n B.c = ⟨p.ldp, 0, 13⟩ := by unfold Pt.rd; rw [h, if_neg (by decide)]
   rw [e]
   exact aIK q B p gv m w H ok hm h
theorem qG {P : Prop} (h : P := by
 go_wp2_with fail
 refine (HT.out).mono ?_
 rintro e w1 ⟨rfl, hL⟩
 have HL := Hd hL
 clear hL HT
 go_wp2_with fail
 go_ret2
 exact ⟨rfl, HL.out⟩
 ) : P := h
theorem tE (q : Nat) (B : Bp) (p : Pt) (gv : Value) (m : Nat) (w : World) (H : aV w q B p gv) (ok : p.ok m) (hm : m < 4294967200) :
 Calls prog 11 #[.pointer (some ⟨q, 0, none⟩)] w fun e w' => e = .returned (.tuple #[.int .u64 (p.rd B.n B.c).v, .int .i64 (p.rd B.n B.c).e]) /\ aS q B (p.rd B.n B.c).p gv w w' := by
 have HT := Hd (aLM q B p gv m w H ok hm)
 rw [show clo (some ⟨q, 0, none⟩) = .func (.func 32) #[.pointer (some ⟨q, 0, none⟩)] #[] from rfl] at HT
 clear H ok hm
 generalize p.rd B.n B.c = r at *
 go_enter func11, ntmps11
 exact qG
def utl (d v e : Int) : Int := if e = 0 then aC7 d v else 0
def aft (d v e : Int) : Int := if e = 0 then dM v d else 0
theorem aIM (q : Nat) (B : Bp) (p : Pt) (gv : Value) (m : Nat) (w : World) (H : aV w q B p gv) (ok : p.ok m) (hm : m < 4294967200) (d : Int) (d0 : 0 <= d) (d1 : d < 18446744073709551616) :
 Calls prog 15 #[.pointer (some ⟨q, 0, none⟩), .int .u64 d] w fun e w' => e = .returned (.tuple #[.int .u64 (utl d (p.rd B.n B.c).v (p.rd B.n B.c).e), .int .i64 (p.rd B.n B.c).e]) /\ aS q B (p.rd B.n B.c).p gv w w' := by
 have HT := Hd (tE q B p gv m w H ok hm)
 have hr := sC ok H.bd.ok H.bd.still (by omega)
 have v0 := hr.v0
 have v1 := hr.v1
 have up := hr.up
 clear H ok hm hr
 generalize p.rd B.n B.c = r at *
 obtain ⟨rp, v, E⟩ := r
 simp only at v0 v1 up HT ⊢
 unfold utl
 rcases up with rfl | ⟨rfl, rfl⟩
 . rw [if_pos rfl]
   go_enter func15, ntmps15
   go_wp2_with fail
   refine (HT.out).mono ?_
   rintro e w1 ⟨rfl, hL⟩
   have HL := Hd hL
   clear hL HT
   go_wp2_with fail
   refine (Sub d v w1 d0 d1 v0 v1).mono ?_
   rintro e w2 ⟨rfl, rfl⟩
   go_wp2_with fail
   go_ret2
   exact ⟨rfl, HL.out⟩
 . rw [if_neg (by decide)]
   go_enter func15, ntmps15
   exact qG
abbrev tCk : TypeId := 84
def ckO (q : Nat) (l : Int) : Obj := .cells #[.pointer (some ⟨q, 0, none⟩), .int .u64 l] tCk (0, 0)
def iL (w : World) (c q : Nat) (l : Int) : Prop := w.heap[c]? = some (ckO q l)
theorem aLA (a : Option Addr) (w : World) : (Instr.build 82 #[(0, .pointer a)]).run prog w = .ok (.agg #[.pointer a]) w := by kernel_rfl
theorem aFS (a : Option Addr) (w : World) : (Instr.build 84 #[(0, .agg #[.pointer a])]).run prog w = .ok (.agg #[.pointer a, .int .u64 0]) w := by kernel_rfl
theorem aJ9 (q : Nat) (w : World) : Calls prog 8 #[.pointer (some ⟨q, 0, none⟩)] w fun e w' => e = .returned (.pointer (some ⟨w.heap.size, 0, none⟩)) /\ w' = w.alloc (ckO q 0) := by
 have h1 := aLA
 have h2 := aFS
 go_enter func8, ntmps8
 exact aT
theorem kE (c q : Nat) (l : Int) (w : World) (h : iL w c q l) : Calls prog 9 #[.pointer (some ⟨c, 0, none⟩)] w fun e w' => e = .returned (.int .u64 l) /\ w = w' := by
 have c1 := aA h 1
 simp at c1
 clear h
 go_enter func9, ntmps9
 exact aT
def aDH (q : Nat) (B : Bp) (p : Pt) (gv : Value) (c : Nat) (l : Int) (w w' : World) : Prop := (∃ w1, aS q B p gv w w1 /\ iL w1 c q l /\ w' = w1) \/ (∃ w1 l1, aS q B p gv w w1 /\ iL w1 c q l1 /\ w' = w1.setCell ⟨c, 1, none⟩ (.int .u64 l))
def aCj (l v e : Int) : Int := if e = 0 then v else l
theorem aS.ck {w w' : World} {q c : Nat} {B : Bp} {p p0 : Pt} {gv gv0 : Value} {l : Int} (H : aV w q B p0 gv0) (L : aS q B p gv w w') (h : iL w c q l) : iL w' c q l := aS.kq H L c _ _ _ h (by decide) rfl
theorem aFg (q : Nat) (B : Bp) (p : Pt) (gv : Value) (m c : Nat) (l : Int) (w : World) (H : aV w q B p gv) (hc : iL w c q l) (ok : p.ok m) (hm : m < 4294967200) :
 Calls prog 12 #[.pointer (some ⟨c, 0, none⟩)] w fun e w' => e = .returned (.tuple #[.int .u64 (p.rd B.n B.c).v, .int .i64 (p.rd B.n B.c).e]) /\ aDH q B (p.rd B.n B.c).p gv c (aCj l (p.rd B.n B.c).v (p.rd B.n B.c).e) w w' := by
 have HT := Hd (tE q B p gv m w H ok hm)
 have hr := sC ok H.bd.ok H.bd.still (by omega)
 have up := hr.up
 have HK := Hd (fun p' gv' w' (L : aS q B p' gv' w w') => aS.ck H L hc)
 have c0 := aA hc 0
 simp at c0
 have hlc := lt_of_block hc
 clear H ok hm hr hc
 generalize p.rd B.n B.c = r at *
 obtain ⟨rp, v, E⟩ := r
 simp only at up HT ⊢
 unfold aCj
 rcases up with rfl | ⟨rfl, rfl⟩
 . rw [if_pos rfl]
   go_enter func12, ntmps12
   go_wp2_with fail
   refine (HT.out).mono ?_
   rintro e w1 ⟨rfl, hL⟩
   have hk := HK.out _ _ _ hL
   have HKK := Hd hk
   have HL := Hd hL
   have hl1 := lt_of_block hk
   have f1 := aN hk 1
   have c1 := aA hk 1
   simp at c1
   clear hL HT HK hk c0 hlc
   go_wp2_with fail
   go_ret2
   exact ⟨rfl, Or.inr ⟨w1, l, HL.out, HKK.out, rfl⟩⟩
 . rw [if_neg (by decide)]
   go_enter func12, ntmps12
   go_wp2_with fail
   refine (HT.out).mono ?_
   rintro e w1 ⟨rfl, hL⟩
   have HKK := Hd (HK.out _ _ _ hL)
   have HL := Hd hL
   clear hL HT HK
   go_wp2_with fail
   go_ret2
   exact ⟨rfl, Or.inl ⟨w1, HL.out, HKK.out, rfl⟩⟩
theorem aDR (q : Nat) (B : Bp) (p : Pt) (gv : Value) (m c : Nat) (l : Int) (w : World) (H : aV w q B p gv) (hc : iL w c q l) (ok : p.ok m) (hm : m < 4294967200) (d : Int) (d0 : 0 <= d) (d1 : d < 18446744073709551616) :
 Calls prog 13 #[.pointer (some ⟨c, 0, none⟩), .int .u64 d] w fun e w' => e = .returned (.tuple #[.int .u64 (aft d (p.rd B.n B.c).v (p.rd B.n B.c).e), .int .i64 (p.rd B.n B.c).e]) /\ aDH q B (p.rd B.n B.c).p gv c (aCj l (p.rd B.n B.c).v (p.rd B.n B.c).e) w w' := by
 have HT := Hd (aFg q B p gv m c l w H hc ok hm)
 have hr := sC ok H.bd.ok H.bd.still (by omega)
 have v0 := hr.v0
 have v1 := hr.v1
 have up := hr.up
 clear H ok hm hr hc
 generalize p.rd B.n B.c = r at *
 obtain ⟨rp, v, E⟩ := r
 simp only at v0 v1 up HT ⊢
 unfold aft
 rcases up with rfl | ⟨rfl, rfl⟩
 . rw [if_pos rfl]
   go_enter func13, ntmps13
   go_wp2_with fail
   refine (HT.out).mono ?_
   rintro e w1 ⟨rfl, hL⟩
   have HL := Hd hL
   clear hL HT
   go_wp2_with fail
   refine (Add v d w1 v0 v1 d0 d1).mono ?_
   rintro e w2 ⟨rfl, rfl⟩
   go_wp2_with fail
   go_ret2
   exact ⟨rfl, HL.out⟩
 . rw [if_neg (by decide)]
   go_enter func13, ntmps13
   exact qG
def kc0 : Pt := pt0 (oN 1) [0, 1, 0]
def kc1 : Pt := kc0.tk 4294967295
theorem aPo : ∀ g ∈ ([0, 1, 0] : List Int), 0 <= g /\ g < 4294967296 := by
 intro g h
 simp only [List.mem_cons, List.not_mem_nil, or_false] at h
 omega
theorem aON : kc0.ok 0 := aMc _ _ (aHj 1) (Nat.le_refl _) (by decide) aPo
theorem aPq : (kc1.rd 1 1).v = 4294967296 := by decide +kernel
theorem aPn : (kc1.rd 1 1).e = 0 := by decide +kernel
theorem aPp : (kc1.rd 1 1).p.md = 5 := by decide +kernel
theorem sP (w : World) : Calls prog 18 #[] w fun e w' => e = .returned (.bool true) /\ Below w.heap.size w w' := by
 have HNW := Hd (aJ5 1 1 1 w (by decide) (by decide) (by decide) (by decide) (by decide) (by decide))
 go_enter func18, ntmps18
 go_wp2_with fail
 refine (HNW.out).mono ?_
 rintro e w1 ⟨B, rfl, h1, hb, h3, h7, h8, h9⟩
 have HH := Hd h1
 have HB := Hd hb
 have HNE := Hd h3
 have HN := Hd (And.intro h7 h8)
 clear h1 hb h3 h7 h8 h9 HNW
 go_wp2_with fail
 have hbx := aE (aI w1) (.cells #[.int .u32 0, .int .u32 1, .int .u32 0] tU (0, 0))
 have hga : jU 0 (w1.alloc (.cells #[.int .u32 0, .int .u32 1, .int .u32 0] tU (0, 0))) (.slice (some ⟨w1.heap.size, 0, none⟩) 3 3) [0, 1, 0] :=
  ⟨_, _, rfl, Nat.le_refl _, by unfold maxLen; decide, .inr ⟨_, 0, rfl, lt_of_block (aD w1 _), .inr (by rw [bM (aD w1 _)]; decide), fun i g hi => by
   rw [aA (aD w1 _)]
   match i, hi with
   | 0, hi => simp at hi; subst hi; rfl
   | 1, hi => simp at hi; subst hi; rfl
   | 2, hi => simp at hi; subst hi; rfl
   | i + 3, hi => simp at hi⟩⟩
 refine (aOg B (oN 1) 0 _ [0, 1, 0] _ (HH.out.below hbx) (aHj 1) hga (by decide)).mono ?_
 rintro e w2 ⟨q, gv, rfl, hq, hp, hb⟩
 have HQ := Hd (show w.heap.size <= q from Nat.le_trans (tr HB.out hbx).size hq)
 have HB := Hd (tr HB.out (tr hbx hb))
 have HH := Hd (show aV w2 q B kc0 gv from hp)
 clear hbx hga hq hp hb
 go_wp2_with fail
 refine (sZ B kc0.x 4294967295 w2 HH.out.bd (by decide) (by decide) (by decide)).mono ?_
 rintro e w3 ⟨rfl, hT⟩
 have hL := HH.out.board hT
 obtain ⟨C1, LC⟩ := hL.lp HH.out HNE.out HQ.out HB.out.size
 have HOK := Hd (show kc1.ok 1 from Pt.tk_ok aON HH.out.bd.still (by decide) _)
 have HH := Hd (show aV w3 q C1 kc1 gv from LC.h)
 have HB := Hd (HB.out.trans LC.lo)
 have HN := Hd (And.intro (LC.n.trans HN.out.1) (LC.c.trans HN.out.2))
 have HNE := Hd LC.nw
 clear hL LC hT
 go_wp2_with fail
 have HT := Hd (tE q C1 kc1 gv 1 w3 HH.out HOK.out (by decide))
 rw [HN.out.1, HN.out.2, aPq, aPn] at HT
 refine (HT.out).mono ?_
 rintro e w4 ⟨rfl, hL⟩
 obtain ⟨C2, LC⟩ := hL.lp HH.out HNE.out HQ.out HB.out.size
 have HH := Hd LC.h
 have HB := Hd (HB.out.trans LC.lo)
 clear hL LC HT
 have HT := Hd (fun w' h => aDt q C2 (kc1.rd 1 1).p gv w' h)
 rw [aPp] at HT
 generalize (kc1.rd 1 1).p = pe at *
 go_wp2_with (go_at_call 22; refine (HT.out _ HH.out).mono ?_; rintro e w5 ⟨rfl, hb⟩; have HB := Hd (tr HB.out hb); clear hb)
 go_ret
 exact ⟨rfl, HB.out⟩
theorem iC : (prog.info? 30).map (·.size) = some 26 := by kernel_rfl
def dO (t : Int) (n : Nat) (A B S : Nat -> Int) : List Value := [.int .u64 t] ++ (il .u32 A 8 ++ (il .u32 B 8 ++ (il .u32 S 8 ++ [.int .i64 n])))
section
variable (t : Int) (n : Nat) (A B S : Nat -> Int)
theorem eC : (dO t n A B S).length = 26 := by simp [dO, cA]
theorem aDz : ∀ v ∈ dO t n A B S, v.oneCell' = true := by
 intro v h
 unfold dO at h
 simp only [List.mem_append, List.mem_cons, List.not_mem_nil, or_false] at h
 rcases h with rfl | h | h | h | rfl
 . rfl
 . exact tT _ _ _ v h
 . exact tT _ _ _ v h
 . exact tT _ _ _ v h
 . rfl
theorem aOr (i : Nat) (h : i < 8) : (dO t n A B S)[1 + i]? = some (.int .u32 (A i)) := by
 unfold dO; rw [eB _ _ 1 i (by rfl), mI _ _ _ (by rw [cA]; exact h), oT _ _ _ _ h]
theorem aOq (i : Nat) (h : i < 8) : (dO t n A B S)[9 + i]? = some (.int .u32 (B i)) := by
 unfold dO; rw [show 9 + i = 1 + (8 + i) by omega, eB _ _ 1 _ (by rfl), eB _ _ 8 i (by rw [cA]), mI _ _ _ (by rw [cA]; exact h), oT _ _ _ _ h]
theorem aKf (i : Nat) (h : i < 8) : (dO t n A B S)[17 + i]? = some (.int .u32 (S i)) := by
 unfold dO; rw [show 17 + i = 1 + (8 + (8 + i)) by omega, eB _ _ 1 _ (by rfl), eB _ _ 8 _ (by rw [cA]), eB _ _ 8 i (by rw [cA]), mI _ _ _ (by rw [cA]; exact h), oT _ _ _ _ h]
theorem aKe : (dO t n A B S)[25]? = some (.int .i64 n) := by
 unfold dO; rw [show 25 = 1 + (8 + (8 + (8 + 0))) by omega, eB _ _ 1 _ (by rfl), eB _ _ 8 _ (by rw [cA]), eB _ _ 8 _ (by rw [cA]), eB _ _ 8 _ (by rw [cA])]; rfl
theorem aHJ (v : Int) : (dO t n A B S).set 0 (.int .u64 v) = dO v n A B S := rfl
theorem aHH (i : Nat) (v : Int) (h : i < 8) : (dO t n A B S).set (1 + i) (.int .u32 v) = dO t n (upd A i v) B S := by
 unfold dO; rw [gC _ _ 1 i _ (by rfl), gT _ _ _ _ (by rw [cA]; exact h), tW]
theorem aHG (i : Nat) (v : Int) (h : i < 8) : (dO t n A B S).set (9 + i) (.int .u32 v) = dO t n A (upd B i v) S := by
 unfold dO; rw [show 9 + i = 1 + (8 + i) by omega, gC _ _ 1 _ _ (by rfl), gC _ _ 8 i _ (by rw [cA]), gT _ _ _ _ (by rw [cA]; exact h), tW]
theorem aHI (i : Nat) (v : Int) (h : i < 8) : (dO t n A B S).set (17 + i) (.int .u32 v) = dO t n A B (upd S i v) := by
 unfold dO; rw [show 17 + i = 1 + (8 + (8 + i)) by omega, gC _ _ 1 _ _ (by rfl), gC _ _ 8 _ _ (by rw [cA]), gC _ _ 8 i _ (by rw [cA]), gT _ _ _ _ (by rw [cA]; exact h), tW]
end
theorem aEw {t : Int} {n : Nat} {A B S A' B' S' : Nat -> Int} (ha : ∀ i, i < 8 -> A i = A' i) (hb : ∀ i, i < 8 -> B i = B' i) (hs : ∀ i, i < 8 -> S i = S' i) : dO t n A B S = dO t n A' B' S' := by
 unfold dO; rw [mO _ _ _ _ ha, mO _ _ _ _ hb, mO _ _ _ _ hs]
def gH (t : Int) (n : Nat) (D S : Nat -> Int) : List Value := dO t n (fun i => lo (D i)) (fun i => hi (D i)) S
theorem fW (t : Int) (n : Nat) (D S : Nat -> Int) : (gH t n D S).length = 26 := eC _ _ _ _ _
theorem aDy (t : Int) (n : Nat) (D S : Nat -> Int) : ∀ v ∈ gH t n D S, v.oneCell' = true := aDz _ _ _ _ _
def bK (w : World) (b : Nat) (t : Int) (n : Nat) (A B S : Nat -> Int) : Prop := w.heap[b]? = some (.cells (dO t n A B S).toArray 30 (0, 0))
section
variable {w w' : World} {b n : Nat} {t : Int} {A B S : Nat -> Int}
theorem bK.lt (h : bK w b t n A B S) : b < w.heap.size := lt_of_block h
theorem bK.below (h : bK w b t n A B S) (hb : Below w.heap.size w w') : bK w' b t n A B S := aC hb h h.lt
theorem bK.free (h : bK w b t n A B S) (j : Nat) : w.frozen? ⟨b, j, none⟩ = false := aN h j
theorem bK.cT (h : bK w b t n A B S) : w.cell? ⟨b, 0, none⟩ = some (.int .u64 t) := by rw [aA h 0]; rfl
theorem bK.cL (h : bK w b t n A B S) (i : Nat) (hi : i < 8) : w.cell? ⟨b, 1 + i, none⟩ = some (.int .u32 (A i)) := by rw [aA h (1 + i), y0q]; exact aOr _ _ _ _ _ _ hi
theorem bK.cH (h : bK w b t n A B S) (i : Nat) (hi : i < 8) : w.cell? ⟨b, 9 + i, none⟩ = some (.int .u32 (B i)) := by rw [aA h (9 + i), y0q]; exact aOq _ _ _ _ _ _ hi
theorem bK.cS (h : bK w b t n A B S) (i : Nat) (hi : i < 8) : w.cell? ⟨b, 17 + i, none⟩ = some (.int .u32 (S i)) := by rw [aA h (17 + i), y0q]; exact aKf _ _ _ _ _ _ hi
theorem bK.cN (h : bK w b t n A B S) : w.cell? ⟨b, 25, none⟩ = some (.int .i64 n) := by rw [aA h 25, y0q]; exact aKe _ _ _ _ _
theorem bK.set {t' : Int} {A' B' S' : Nat -> Int} (h : bK w b t n A B S) (j : Nat) (v : Value) (he : (dO t n A B S).set j v = dO t' n A' B' S') : bK (w.setCell ⟨b, j, none⟩ v) b t' n A' B' S' := by
 unfold bK; rw [aR h, <- he]; simp
theorem bK.setT (h : bK w b t n A B S) (v : Int) : bK (w.setCell ⟨b, 0, none⟩ (.int .u64 v)) b v n A B S := h.set _ _ (aHJ _ _ _ _ _ _)
theorem bK.setL (h : bK w b t n A B S) (i : Nat) (v : Int) (hi : i < 8) : bK (w.setCell ⟨b, 1 + i, none⟩ (.int .u32 v)) b t n (upd A i v) B S := h.set _ _ (aHH _ _ _ _ _ _ _ hi)
theorem bK.setH (h : bK w b t n A B S) (i : Nat) (v : Int) (hi : i < 8) : bK (w.setCell ⟨b, 9 + i, none⟩ (.int .u32 v)) b t n A (upd B i v) S := h.set _ _ (aHG _ _ _ _ _ _ _ hi)
theorem bK.setS (h : bK w b t n A B S) (i : Nat) (v : Int) (hi : i < 8) : bK (w.setCell ⟨b, 17 + i, none⟩ (.int .u32 v)) b t n A B (upd S i v) := h.set _ _ (aHI _ _ _ _ _ _ _ hi)
theorem bK.other (h : bK w b t n A B S) (k j : Nat) (v : Value) (hne : b ≠ k) : bK (w.setCell ⟨k, j, none⟩ v) b t n A B S := aW h k j v hne
end
section
variable {ops : Array Oper} {rest : List Oper} {o : Oper} {a : Act} {w : World} {Q : Exit -> Act -> World -> Prop}
theorem mB (hgd : o.guard = none) (x : Operand) (ho : o.op = .load 30 x) {b : Nat} (hx : a.eval x = .pointer (some ⟨b, 0, none⟩)) {t : Int} {n : Nat} {A B S : Nat -> Int} (hg : bK w b t n A B S)
 (h : wpList prog ops Q rest (a.put o.dst (.agg (dO t n A B S).toArray)) w) : wpList prog ops Q (o :: rest) a w :=
 aM hgd _ x ho b 0 hx _ (dO t n A B S) hg underlying30 rfl (by rw [eC]; exact iC) (aL _) h
theorem mX (hgd : o.guard = none) (x y : Operand) (ho : o.op = .store 30 x y) {b : Nat} (hx : a.eval x = .pointer (some ⟨b, 0, none⟩)) {t : Int} {n : Nat} {A B S : Nat -> Int} (hy : a.eval y = .agg (dO t n A B S).toArray) {cs : Array Value} {ty : TypeId}
 (hg : w.heap[b]? = some (.cells cs ty (0, 0))) (hl : cs.size = 26)
 (h : wpList prog ops Q rest (a.put o.dst undef) (w.setRow b (dO t n A B S).toArray)) : wpList prog ops Q (o :: rest) a w := by
 refine aJ hgd _ x y ho b 0 hx (dO t n A B S) hy hg (by rw [eC]; exact iC) (by rw [eC]; omega) (aDz _ _ _ _ _) ?_
 rw [aX _ _ (by rw [eC, hl])]
 exact h
theorem aMi {C : World -> Prop} {K : Act -> Prop} (x : Operand) (ho : o.op = .load 30 x) {b : Nat} (hx : a.eval x = .pointer (some ⟨b, 0, none⟩)) {t : Int} {n : Nat} {A B S : Nat -> Int} (hg : ∀ w, C w -> bK w b t n A B S)
 (h : K (a.put o.dst (.agg (dO t n A B S).toArray))) : o.quiet prog a C K :=
 bF _ x ho b 0 hx _ (dO t n A B S) (fun w hw => hg w hw) underlying30 rfl (by rw [eC]; exact iC) (aL _) h
end
theorem bK.row {w : World} {b : Nat} {cs : Array Value} {t : Int} {n : Nat} {A B S : Nat -> Int} (hg : w.heap[b]? = some (.cells cs 30 (0, 0))) : bK (w.setRow b (dO t n A B S).toArray) b t n A B S := aZ _ hg
theorem aMt {fn : Func} {p : Tmp} (h : fn.results = #[.cell p 30]) (tmps : Array Value) (w : World) {b : Nat} {t : Int} {n : Nat} {A B S : Nat -> Int} (hp : tmps[p]? = some (.pointer (some ⟨b, 0, none⟩))) (hg : bK w b t n A B S) :
 (results fn tmps).run prog w = .ok (.agg (dO t n A B S).toArray) w :=
 aU h tmps w b 0 _ (dO t n A B S) hp hg underlying30 rfl (by rw [eC]; exact iC) (aL _)
theorem aBN {fn : Func} {p q : Tmp} (h : fn.results = #[.cell p 30, .tmp q]) (tmps : Array Value) (w : World) {b : Nat} {t : Int} {n : Nat} {A B S : Nat -> Int} (y : Value) (hp : tmps[p]? = some (.pointer (some ⟨b, 0, none⟩))) (hq : tmps[q]? = some y) (hg : bK w b t n A B S) :
 (results fn tmps).run prog w = .ok (.tuple #[.agg (dO t n A B S).toArray, y]) w :=
 bC h tmps w b 0 _ (dO t n A B S) y hp hq hg underlying30 rfl (by rw [eC]; exact iC) (aL _)
end Go.Proofs.YtealhichdbimlaaGreat.B
