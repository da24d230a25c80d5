/- A part of the proof of a law of layer 12: af. -/
import Derived.Test.YtealhichdbimlaaGreatZNae
set_option linter.unusedVariables false
set_option linter.unusedSimpArgs false
set_option maxHeartbeats 12800000
set_option maxRecDepth 100000
namespace Go.Proofs.YtealhichdbimlaaGreat.B
open Go.Proofs.Tryz
open Go.ChangeShapes Go.WideShapes Go.RowKit Go.Sort
theorem mC (t : Nat -> Tm) (f : Tm -> Tm) (k i : Nat) : nN (fun i => if i < k then f (t i) else t i) k (f (t k)) i = if i < k + 1 then f (t i) else t i := by
 by_cases e : i = k
 . subst e; rw [kW, if_pos (by omega)]
 . rw [kX _ _ e]
   by_cases c : i < k
   . rw [if_pos (show i < k + 1 by omega)]; exact if_pos c
   . rw [if_neg (show ¬ i < k + 1 by omega)]; exact if_neg c
section
variable {p g n : Nat} {q : Nat -> Nat} {t : Nat -> Tm} {w : World}
theorem uV (h : bG w p g n q t) : Calls prog 199 #[.pointer (some ⟨p, 0, none⟩)] w fun e w' => e = .returned (.slice (some ⟨g, 0, none⟩) n n) /\ w = w' := by
 have c0 := h.c0
 clear h
 go_enter func199, ntmps199
 exact aL
theorem aAq (h : bG w p g n q t) : Calls prog 135 #[.pointer (some ⟨p, 0, none⟩)] w fun e w' => e = .returned (.int .i64 n) /\ w = w' := by
 go_enter func135, ntmps135
 go_wp2_with fail
 refine (uV h).mono ?_
 rintro e w1 ⟨rfl, rfl⟩
 exact aL
theorem aAt (h : bG w p g n q t) (N : Int) (n0 : 0 <= N) (n1 : N < 18446744073709551616) :
 Calls prog 277 #[.pointer (some ⟨p, 0, none⟩), .int .u64 N] w fun e w' => e = .returned (.tuple #[]) /\ bG w' p g n q (fun i => (t i).tick N) /\ aE (own n q) w w' := by
 have n8 := h.rm.n8
 go_enter func277, ntmps277
 go_wp2_with fail
 refine (uV h).mono ?_
 rintro e w1 ⟨rfl, rfl⟩
 go_wp2_with fail
 go_loopw [9] (fun i wr => ∃ k : Nat, k <= n /\ i = .int .i64 k /\ bG wr p g n q (fun i => if i < k then (t i).tick N else t i) /\ aE (own n q) w wr) (fun i wr => n - (intOf i).toNat)
 case atStart => exact ⟨0, by omega, rfl, h.congr (fun i _ => by simp), aE.refl _ _⟩
 case round =>
  obtain ⟨k, hk, rfl, H, ho⟩ := hrel
  by_cases hlt : k < n
  . have hc := H.get hlt
    have ht := H.rm.tms k hlt
    have ok := H.rm.ok k hlt
    simp only [Nat.lt_irrefl, if_false] at ht ok
    have HH := Hd H
    have HO := Hd ho
    clear H ho h
    go_wp2_with fail
    refine (aBS (t k) N (q k) wr ok ht n0 n1).mono ?_
    rintro e w2 ⟨rfl, a2, ho2⟩
    have H2 := (HH.out.turn hlt a2 (Tm.tick_ok ok n0) ho2).congr (s := fun i => if i < k + 1 then (t i).tick N else t i) (fun i _ => mC t (fun x => x.tick N) k i)
    have HO2 := HO.out.trans (ho2.own hlt)
    clear HH HO ho2 a2 ht ok hc
    go_wp2_with fail
    go_roundw
    case rel => exact ⟨k + 1, by omega, by go_num, H2, HO2⟩
    case measure => simp [intOf]; omega
  . obtain rfl : k = n := by omega
    go_wp2_with fail
    go_end0
    exact ⟨rfl, H.congr (fun i hi => if_pos hi), ho⟩
theorem xS (h : bG w p g n q t) :
 Calls prog 275 #[.pointer (some ⟨p, 0, none⟩)] w fun e w' => e = .returned (.tuple #[]) /\ bG w' p g n q (fun i => tz) /\ aE (own n q) w w' := by
 have n8 := h.rm.n8
 go_enter func275, ntmps275
 go_wp2_with fail
 refine (uV h).mono ?_
 rintro e w1 ⟨rfl, rfl⟩
 go_wp2_with fail
 go_loopw [7] (fun i wr => ∃ k : Nat, k <= n /\ i = .int .i64 k /\ bG wr p g n q (fun i => if i < k then tz else t i) /\ aE (own n q) w wr) (fun i wr => n - (intOf i).toNat)
 case atStart => exact ⟨0, by omega, rfl, h.congr (fun i _ => by simp), aE.refl _ _⟩
 case round =>
  obtain ⟨k, hk, rfl, H, ho⟩ := hrel
  by_cases hlt : k < n
  . have hc := H.get hlt
    have ht := H.rm.tms k hlt
    simp only [Nat.lt_irrefl, if_false] at ht
    have HH := Hd H
    have HO := Hd ho
    clear H ho h
    go_wp2_with fail
    refine (zS (t k) (q k) wr ht).mono ?_
    rintro e w2 ⟨rfl, rfl⟩
    have ho2 := kM wr (q k) (wl tz).toArray
    have H2 := (HH.out.turn hlt (dM.row ht tz) oM ho2).congr (s := fun i => if i < k + 1 then tz else t i) (fun i _ => mC t (fun _ => tz) k i)
    have HO2 := HO.out.trans (ho2.own hlt)
    clear HH HO ho2 ht hc
    generalize wr.setRow (q k) (wl tz).toArray = W2 at *
    go_wp2_with fail
    go_roundw
    case rel => exact ⟨k + 1, by omega, by go_num, H2, HO2⟩
    case measure => simp [intOf]; omega
  . obtain rfl : k = n := by omega
    go_wp2_with fail
    go_end0
    exact ⟨rfl, H.congr (fun i hi => if_pos hi), ho⟩
theorem qH (h : bG w p g n q t) :
 Calls prog 165 #[.pointer (some ⟨p, 0, none⟩), .func (.func 166) #[] #[]] w fun e w' => e = .returned (.int .u32 (ob (fun i => (t i).st && (t i).iq) n)) /\ Below w.heap.size w w' := by
 have n8 := h.rm.n8
 go_enter func165, ntmps165
 go_wp2_with fail
 refine (uV h).mono ?_
 rintro e w1 ⟨rfl, rfl⟩
 go_wp2_with fail
 go_loopw [5, 11] (fun a i wr => ∃ (k : Nat) (X : Int), k <= n /\ i = .int .i64 k /\ a = .int .u32 X /\ 0 <= X /\ X < 4294967296 /\ Hid (X = ob (fun i => (t i).st && (t i).iq) k) /\ bG wr p g n q t /\ Below w.heap.size w wr) (fun a i wr => n - (intOf i).toNat)
 case atStart => exact ⟨0, 0, by omega, rfl, rfl, by omega, by omega, Hd rfl, h, aV w⟩
 case round =>
  clear h
  obtain ⟨k, X, hk, rfl, rfl, X0, X1, hX, H, hB⟩ := hrel
  by_cases hlt : k < n
  . have hc := H.get hlt
    have ht := H.rm.tms k hlt
    have ok := H.rm.ok k hlt
    have HH := Hd H
    have ho := aBV (fun i => (t i).st && (t i).iq) k (by omega)
    have hbd := eP (fun i => (t i).st && (t i).iq) (k + 1) (by omega)
    have hun := jX k
    rw [<- hX.out] at ho
    have hy := zU (fun i => (t i).st && (t i).iq) k (by omega)
    have hno := xC (fun i => (t i).st && (t i).iq) k
    obtain ⟨f, hf⟩ : ∃ f, ((t k).st && (t k).iq) = f := ⟨_, rfl⟩
    have C := aBO (t k) (q k) wr ok ht
    rw [hf] at C
    rw [hf] at hy hno
    have HY := Hd hy
    have HN := Hd hno
    have HB := Hd hbd
    clear H hf hy hno hbd
    cases f
    . go_wp2_with fail
      refine C.mono ?_
      rintro e w2 ⟨rfl, hb⟩
      have H2 := HH.out.below hb
      have hB2 := tr hB hb
      clear HH hc ht hb ho hun C
      go_wp2_with fail
      go_roundw
      case rel => exact ⟨k + 1, X, by omega, by go_num, rfl, X0, X1, Hd (by rw [HN.out (by simp)]; exact hX.out), H2, hB2⟩
      case measure => simp [intOf]; omega
    . have HO := Hd ho
      clear ho
      go_wp2_with fail
      refine C.mono ?_
      rintro e w2 ⟨rfl, hb⟩
      have H2 := HH.out.below hb
      have hB2 := tr hB hb
      clear HH hc ht hb C
      go_wp2_with fail
      go_roundw
      case rel => exact ⟨k + 1, ob (fun i => (t i).st && (t i).iq) (k + 1), by omega, by go_num, by rw [HY.out (by simp), <- hX.out, <- HO.out]; rfl, HB.out.1, HB.out.2, Hd rfl, H2, hB2⟩
      case measure => simp [intOf]; omega
  . obtain rfl : k = n := by omega
    go_wp2_with fail
    go_ret
    exact ⟨bO hX.out, hB⟩
theorem bX {P : Prop} (h : P := by
 go_wp2_with fail
 go_ret
 exact ⟨rfl, hb⟩
 ) : P := h
theorem xR (h : bG w p g n q t) :
 Calls prog 95 #[.pointer (some ⟨p, 0, none⟩)] w fun e w' => e = .returned (.int .u32 (ob (fun i => (t i).st && (t i).iq) n)) /\ Below w.heap.size w w' := by
 go_enter func95, ntmps95
 go_wp2_with fail
 refine (qH h).mono ?_
 rintro e w1 ⟨rfl, hb⟩
 exact bX
end
section
variable {p g n : Nat} {q : Nat -> Nat} {t : Nat -> Tm} {w : World}
theorem fW {P : Prop} (h : P := by
 simp [results, results278, go_sem]
 ) : P := h
theorem uW (h : bG w p g n q t) (o E : Int) (o0 : 0 <= o) (o1 : o < 4294967296) (hE : eY n o = E) (hne : E ≠ 0) :
 Calls prog 278 #[.pointer (some ⟨p, 0, none⟩), .int .u32 o] w fun e w' => e = .returned (.tuple #[.pointer none, .int .u32 0, .int .i64 E]) /\ w = w' := by
 have n8 := h.rm.n8
 have H := Hd h
 clear h
 unfold eY at hE
 cases h4 : (o % 4 != 0)
 . rw [h4, if_neg (by simp)] at hE
   by_cases hn : (n : Int) <= o / 32
   . rw [if_pos hn] at hE
     subst hE
     clear hne
     go_enter func278, ntmps278
     go_wp2_with fail
     refine (aAq H.out).mono ?_
     rintro e w1 ⟨rfl, rfl⟩
     go_wp2_with fail
     refine bodyPost_ret (v := .tuple #[.pointer none, .int .u32 0, .int .i64 10]) ?_ rfl ⟨rfl, rfl⟩
     exact fW
   . rw [if_neg hn] at hE
     exact absurd hE.symm hne
 . rw [h4, if_pos rfl] at hE
   subst hE
   clear hne
   go_enter func278, ntmps278
   go_wp2_with fail
   refine bodyPost_ret (v := .tuple #[.pointer none, .int .u32 0, .int .i64 11]) ?_ rfl ⟨rfl, rfl⟩
   exact fW
theorem jN {n : Nat} {o : Int} (o0 : 0 <= o) (h : eY n o = 0) : (o % 4 != 0) = false /\ o / 32 < n /\ (o / 32).toNat < n := by
 unfold eY at h
 cases h4 : (o % 4 != 0)
 . rw [h4, if_neg (by simp)] at h
   by_cases hn : (n : Int) <= o / 32
   . rw [if_pos hn] at h; omega
   . exact ⟨rfl, by omega, by omega⟩
 . rw [h4, if_pos rfl] at h; omega
theorem aAp (h : bG w p g n q t) (o : Int) (o0 : 0 <= o) (o1 : o < 4294967296) (hE : eY n o = 0) :
 Calls prog 278 #[.pointer (some ⟨p, 0, none⟩), .int .u32 o] w fun e w' => e = .returned (.tuple #[.pointer (some ⟨q (o / 32).toNat, 0, none⟩), .int .u32 (o % 32), .int .i64 0]) /\ w = w' := by
 obtain ⟨h4, hn, hk⟩ := jN o0 hE
 have n8 := h.rm.n8
 have c0 := h.c0
 have hc := h.get hk
 have H := Hd h
 clear h hE
 go_enter func278, ntmps278
 go_wp2_with fail
 refine (aAq H.out).mono ?_
 rintro e w1 ⟨rfl, rfl⟩
 go_wp2_with fail
 refine bodyPost_ret (v := .tuple #[.pointer (some ⟨q (o / 32).toNat, 0, none⟩), .int .u32 (o % 32), .int .i64 0]) ?_ rfl ⟨rfl, rfl⟩
 exact fW
end
def nV (n : Nat) (o : Int) : Int := if eY n o = 0 then fC (o % 32) else eY n o
def vI (n : Nat) (t : Nat -> Tm) (o : Int) : Int := if eY n o = 0 then (t (o / 32).toNat).val (o % 32) else 0
def aBG (n : Nat) (o : Int) : Int := if eY n o = 0 then aBR (o % 32) else eY n o
def zD (n : Nat) (t : Nat -> Tm) (o x : Int) : Nat -> Tm := if aBG n o = 0 then nN t (o / 32).toNat ((t (o / 32).toNat).sto (o % 32) x) else t
section
variable {p g n : Nat} {q : Nat -> Nat} {t : Nat -> Tm} {w : World}
theorem aAr (h : bG w p g n q t) (o : Int) (o0 : 0 <= o) (o1 : o < 4294967296) :
 Calls prog 274 #[.pointer (some ⟨p, 0, none⟩), .int .u32 o] w fun e w' => e = .returned (.tuple #[.int .u32 (vI n t o), .int .i64 (nV n o)]) /\ w = w' := by
 unfold vI nV
 by_cases hE : eY n o = 0
 . rw [if_pos hE, if_pos hE]
   obtain ⟨_, _, hk⟩ := jN o0 hE
   have C := aBP (t (o / 32).toNat) (o % 32) (q (o / 32).toNat) w (h.rm.ok _ hk) (h.rm.tms _ hk) (by omega) (by omega)
   have F := aAp h o o0 o1 hE
   generalize (t (o / 32).toNat).val (o % 32) = V at *
   generalize fC (o % 32) = E at *
   generalize q (o / 32).toNat = r at *
   generalize o % 32 = s at *
   clear h hE hk
   go_enter func274, ntmps274
   go_wp2_with fail
   refine F.mono ?_
   rintro e w1 ⟨rfl, rfl⟩
   go_wp2_with fail
   refine C.mono ?_
   rintro e w1 ⟨rfl, rfl⟩
   exact cW
 . rw [if_neg hE, if_neg hE]
   have F := uW h o _ o0 o1 rfl hE
   have hn : (eY n o == 0) = false := by simpa using hE
   have hn2 : (eY n o != 0) = true := by simpa using hE
   generalize eY n o = E at *
   clear h hE
   go_enter func274, ntmps274
   go_wp2_with fail
   refine F.mono ?_
   rintro e w1 ⟨rfl, rfl⟩
   exact cW
end
structure Wd where
 en : Bool
 lk : Bool
 ar : Bool
 cl : Int
 tot : Int
 si : Int
 fa : Int
structure Wd.ok (t : Wd) : Prop where
 c0 : 0 <= t.cl
 c1 : t.cl < 4294967296
 t0 : 0 <= t.tot
 t1 : t.tot < 4294967296
 s0 : 0 <= t.si
 s1 : t.si <= t.tot
 run : t.en = true -> t.fa = 0 -> t.si < t.tot
 win : t.en = true -> t.cl < t.tot
 fa : t.fa = 0 \/ t.fa = 2 \/ t.fa = 4 \/ t.fa = 8
 idle : t.en = false -> t.fa = 0 /\ t.si = 0 /\ t.ar = false
def wz : Wd := ⟨false, false, false, 0, 0, 0, 0⟩
theorem xK : wz.ok := ⟨by decide, by decide, by decide, by decide, by decide, by decide, by decide, by decide, .inl rfl, fun _ => ⟨rfl, rfl, rfl⟩⟩
def Wd.left (t : Wd) : Int := if t.en = true /\ t.fa = 0 then t.tot - t.si else 18446744073709551615
def Wd.tick (t : Wd) (n : Int) : Wd := if t.en = true /\ t.fa = 0 then (if t.tot <= t.si + n then { t with si := t.tot, fa := 2 } else { t with si := t.si + n }) else t
def Wd.ran (t : Wd) (n : Int) : Int := if t.fa ≠ 0 then 0 else if t.en = true then (if t.tot <= t.si + n then t.tot - t.si else n) else n
theorem Wd.tick_ok {t : Wd} (h : t.ok) {n : Int} (n0 : 0 <= n) : (t.tick n).ok := by
 obtain ⟨c0, c1, t0, t1, s0, s1, run, win, fa, idle⟩ := h
 unfold Wd.tick
 split
 . rename_i he
   split
   . exact ⟨c0, c1, t0, t1, t0, Int.le_refl _, fun _ h => absurd h (show ¬ (2 : Int) = 0 by decide), win, .inr (.inl rfl), fun h => absurd (he.1.symm.trans h) (by decide)⟩
   . exact ⟨c0, c1, t0, t1, by show 0 <= t.si + n; omega, by show t.si + n <= t.tot; omega, fun _ _ => by show t.si + n < t.tot; omega, win, fa, fun h => absurd (he.1.symm.trans h) (by decide)⟩
 . exact ⟨c0, c1, t0, t1, s0, s1, run, win, fa, idle⟩
def eH (o : Int) : Int := if o % 4 ≠ 0 then 11 else if o <= 16 then 0 else 10
def Wd.val (t : Wd) (o : Int) : Int := if o = 0 then tk t.en + 2 * tk t.lk else if o = 4 then t.cl else if o = 8 then t.tot else if o = 16 then t.si else 0
def Wd.ctlTo (t : Wd) (v : Int) : Wd := if t.en = false /\ v % 2 = 1 /\ t.cl < t.tot then { t with en := true, si := 0, ar := false } else if t.en = true /\ v % 2 = 0 then { t with en := false, si := 0, ar := false } else t
def Wd.ctlPut (t : Wd) (v : Int) : Wd := if t.lk = true then t else { t.ctlTo v with lk := (v / 2 % 2 == 1) }
def Wd.key (t : Wd) (v : Int) : Wd :=
 if t.en = false then t else if v = 23130 then { t with ar := true } else if v = 42405 /\ t.ar = true then (if t.si < t.cl then { t with fa := 4 } else { t with si := 0, ar := false }) else if t.si < t.cl then { t with fa := 8 } else { t with ar := false }
def Wd.sto (t : Wd) (o v : Int) : Wd :=
 if t.fa ≠ 0 then t else if o = 0 then t.ctlPut v else if o = 4 then (if t.lk = true \/ t.en = true then t else { t with cl := v }) else if o = 8 then (if t.lk = true \/ t.en = true then t else { t with tot := v }) else if o = 12 then t.key v else t
theorem Wd.sto_ok {t : Wd} (h : t.ok) {o v : Int} (v0 : 0 <= v) (v1 : v < 4294967296) : (t.sto o v).ok := by
 unfold Wd.sto
 split
 . exact h
 rename_i hf
 have hf0 : t.fa = 0 := by simpa using hf
 obtain ⟨c0, c1, t0, t1, s0, s1, run, win, fa, idle⟩ := h
 have same : t.ok := ⟨c0, c1, t0, t1, s0, s1, run, win, fa, idle⟩
 split
 . unfold Wd.ctlPut
   split
   . exact same
   . have hc : (t.ctlTo v).ok := by
      unfold Wd.ctlTo
      split
      . rename_i hx
        exact ⟨c0, c1, t0, t1, Int.le_refl _, t0, fun _ _ => by show 0 < t.tot; omega, fun _ => hx.2.2, .inl hf0, fun h => absurd h (by simp)⟩
      . split
        . exact ⟨c0, c1, t0, t1, Int.le_refl _, t0, fun h => absurd h (by simp), fun h => absurd h (by simp), .inl hf0, fun _ => ⟨hf0, rfl, rfl⟩⟩
        . exact same
     obtain ⟨c0, c1, t0, t1, s0, s1, run, win, fa, idle⟩ := hc
     exact ⟨c0, c1, t0, t1, s0, s1, run, win, fa, idle⟩
 split
 . split
   . exact same
   . rename_i hx
     have he : t.en = false := by cases h : t.en <;> simp_all
     obtain ⟨_, hsi, har⟩ := idle he
     exact ⟨v0, v1, t0, t1, s0, s1, run, fun h => absurd (h.symm.trans he) (by decide), fa, idle⟩
 split
 . split
   . exact same
   . rename_i hx
     have he : t.en = false := by cases h : t.en <;> simp_all
     obtain ⟨_, hsi, har⟩ := idle he
     exact ⟨c0, c1, v0, v1, s0, by show t.si <= v; omega, fun h => absurd (h.symm.trans he) (by decide), fun h => absurd (h.symm.trans he) (by decide), fa, idle⟩
 split
 . unfold Wd.key
   split
   . exact same
   rename_i hen
   have he : t.en = true := by cases h : t.en <;> simp_all
   have nid : t.en = false -> False := fun h => absurd (he.symm.trans h) (by decide)
   have hw := win he
   split
   . exact ⟨c0, c1, t0, t1, s0, s1, run, win, fa, fun h => (nid h).elim⟩
   split
   . split
     . exact ⟨c0, c1, t0, t1, s0, s1, fun _ h => absurd h (show ¬ (4 : Int) = 0 by decide), win, .inr (.inr (.inl rfl)), fun h => (nid h).elim⟩
     . exact ⟨c0, c1, t0, t1, Int.le_refl _, t0, fun _ _ => by show 0 < t.tot; omega, win, fa, fun h => (nid h).elim⟩
   split
   . exact ⟨c0, c1, t0, t1, s0, s1, fun _ h => absurd h (show ¬ (8 : Int) = 0 by decide), win, .inr (.inr (.inr rfl)), fun h => (nid h).elim⟩
   . exact ⟨c0, c1, t0, t1, s0, s1, run, win, fa, fun h => (nid h).elim⟩
 . exact same
structure Rs where
 ca : Int
 ct : Int
 la : Int
 qs : Bool
def iK (c : Int) : Prop := c = 2 \/ c = 4 \/ c = 8 \/ c = 16
instance (c : Int) : Decidable (iK c) := by unfold iK; infer_instance
structure Rs.ok (t : Rs) : Prop where
 a0 : 0 <= t.ca
 a1 : t.ca < 4294967296
 c0 : 0 <= t.ct
 c1 : t.ct < 4294967296
 l0 : 1 <= t.la
 l1 : t.la < 17
def lA : Rs := ⟨0, 0, 0, false⟩
def rsN : Rs := ⟨1, 0, 1, false⟩
theorem aAL : rsN.ok := ⟨by decide, by decide, by decide, by decide, by decide, by decide⟩
def uG (n : Int) : Int := if n < 4294967295 then n + 1 else n
theorem nM (n : Int) (n0 : 0 <= n) (n1 : n < 4294967296) : 0 <= uG n /\ uG n < 4294967296 := by unfold uG; split <;> omega
def Rs.put (t : Rs) (c : Int) : Rs := ⟨bits BinOp.or IntKind.u32 t.ca c, uG t.ct, c, false⟩
def Rs.ltc (t : Rs) (c : Int) : Rs := if iK c then t.put c else t
theorem gU {c : Int} (h : iK c) : 1 <= c /\ c < 17 := by unfold iK at h; omega
theorem Rs.put_ok {t : Rs} (h : t.ok) {c : Int} (hc : iK c) : (t.put c).ok := by
 obtain ⟨c0, c1⟩ := gU hc
 obtain ⟨o0, o1⟩ := pP t.ca c h.a0 h.a1 (by omega) (by omega)
 obtain ⟨u0, u1⟩ := nM t.ct h.c0 h.c1
 exact ⟨o0, o1, u0, u1, c0, c1⟩
theorem Rs.ltc_ok {t : Rs} (h : t.ok) (c : Int) : (t.ltc c).ok := by
 unfold Rs.ltc
 split
 . exact Rs.put_ok h (by assumption)
 . exact h
def dK (o : Int) : Int := if o % 4 ≠ 0 then 11 else if 16 <= o then 10 else 0
theorem nI {o : Int} (o0 : 0 <= o) (h : dK o = 0) : o = 0 \/ o = 4 \/ o = 8 \/ o = 12 := by
 unfold dK at h
 split at h
 . omega
 . split at h <;> omega
def Rs.val (t : Rs) (o : Int) : Int := if o = 0 then t.ca else if o = 4 then t.ct else if o = 12 then t.la else 0
def Rs.clr (t : Rs) (v : Int) : Rs := { t with ca := bits BinOp.andNot IntKind.u32 t.ca v }
def Rs.ask (t : Rs) (v : Int) : Rs := { t with qs := t.qs || (v == 45063) }
def Rs.sto (t : Rs) (o v : Int) : Rs := if o = 0 then t.clr v else if o = 8 then t.ask v else t
theorem Rs.clr_ok {t : Rs} (h : t.ok) {v : Int} (v0 : 0 <= v) (v1 : v < 4294967296) : (t.clr v).ok := by
 obtain ⟨b0, b1⟩ := iJ t.ca v h.a0 h.a1 v0 v1
 exact ⟨b0, b1, h.c0, h.c1, h.l0, h.l1⟩
theorem Rs.ask_ok {t : Rs} (h : t.ok) (v : Int) : (t.ask v).ok := ⟨h.a0, h.a1, h.c0, h.c1, h.l0, h.l1⟩
theorem Rs.sto_ok {t : Rs} (h : t.ok) {o v : Int} (v0 : 0 <= v) (v1 : v < 4294967296) : (t.sto o v).ok := by
 unfold Rs.sto
 split
 . exact Rs.clr_ok h v0 v1
 . split
   . exact Rs.ask_ok h v
   . exact h
theorem iS : (prog.info? 229).map (·.size) = some 5 := by kernel_rfl
def s5 (ca ct ke la : Int) (qs : Bool) : List Value := [.int .u32 ca, .int .u32 ct, .int .u32 ke, .int .u32 la, .bool qs]
def al (t : Rs) : List Value := s5 t.ca t.ct 0 t.la t.qs
theorem xO (t : Rs) : ∀ x ∈ al t, x.oneCell' = true := by
 intro x h
 simp only [al, s5, List.mem_cons, List.not_mem_nil, or_false] at h
 rcases h with rfl | rfl | rfl | rfl | rfl <;> rfl
abbrev tS : TypeId := 263
abbrev jU : TypeId := 229
def bP (w : World) (b : Nat) (T : TypeId) (t : Rs) : Prop := w.heap[b]? = some (.cells (al t).toArray T (0, 0))
section
variable {w w' : World} {b : Nat} {T : TypeId} {t : Rs}
theorem bP.lt (h : bP w b T t) : b < w.heap.size := lt_of_block h
theorem bP.below (h : bP w b T t) (hb : Below w.heap.size w w') : bP w' b T t := aB hb h h.lt
theorem bP.off {S : Nat -> Prop} (h : bP w b T t) (ho : aE S w w') (hs : ¬ S b) : bP w' b T t := ho.at h hs
theorem bP.free (h : bP w b T t) (j : Nat) : w.frozen? ⟨b, j, none⟩ = false := aG h j
theorem bP.c0 (h : bP w b T t) : w.cell? ⟨b, 0, none⟩ = some (.int .u32 t.ca) := by rw [aA h 0]; rfl
theorem bP.c1 (h : bP w b T t) : w.cell? ⟨b, 1, none⟩ = some (.int .u32 t.ct) := by rw [aA h 1]; rfl
theorem bP.c2 (h : bP w b T t) : w.cell? ⟨b, 2, none⟩ = some (.int .u32 0) := by rw [aA h 2]; rfl
theorem bP.c3 (h : bP w b T t) : w.cell? ⟨b, 3, none⟩ = some (.int .u32 t.la) := by rw [aA h 3]; rfl
theorem bP.c4 (h : bP w b T t) : w.cell? ⟨b, 4, none⟩ = some (.bool t.qs) := by rw [aA h 4]; rfl
theorem bP.set (h : bP w b T t) (j : Nat) (x : Value) {s : Rs} (he : (al t).set j x = al s) : bP (w.setCell ⟨b, j, none⟩ x) b T s := by
 unfold bP; rw [aK h, <- he]; simp
theorem bP.s0 (h : bP w b T t) (x : Int) : bP (w.setCell ⟨b, 0, none⟩ (.int .u32 x)) b T { t with ca := x } := h.set _ _ rfl
theorem bP.s1 (h : bP w b T t) (x : Int) : bP (w.setCell ⟨b, 1, none⟩ (.int .u32 x)) b T { t with ct := x } := h.set _ _ rfl
theorem bP.s3 (h : bP w b T t) (x : Int) : bP (w.setCell ⟨b, 3, none⟩ (.int .u32 x)) b T { t with la := x } := h.set _ _ rfl
theorem bP.s4 (h : bP w b T t) (x : Bool) : bP (w.setCell ⟨b, 4, none⟩ (.bool x)) b T { t with qs := x } := h.set _ _ rfl
theorem bP.other (h : bP w b T t) (k j : Nat) (x : Value) (hne : b ≠ k) : bP (w.setCell ⟨k, j, none⟩ x) b T t := aJ h k j x hne
theorem bP.row {old : Array Value} (h : w.heap[b]? = some (.cells old T (0, 0))) (t : Rs) : bP (w.setRow b (al t).toArray) b T t := cL _ h
theorem bP.elseRow (h : bP w b T t) (g : Nat) (cs : Array Value) (hne : b ≠ g) : bP (w.setRow g cs) b T t := dE g cs h hne
theorem bP.alloc (h : bP w b T t) (o : Obj) : bP (w.alloc o) b T t := (aH w o h.lt).trans h
theorem bP.grown (h : bP w b T t) : ∀ w', (∃ p : Regrown, w' = grow (redrawn w p.d) p.os) -> bP w' b T t := bZ h
end
section
variable {ops : Array Oper} {rest : List Oper} {o : Oper} {a : Act} {w : World} {Q : Exit -> Act -> World -> Prop}
theorem oB (hgd : o.guard = none) (x : Operand) (ho : o.op = .load 229 x) {b : Nat} {T : TypeId} (hx : a.eval x = .pointer (some ⟨b, 0, none⟩)) {t : Rs} (hg : bP w b T t)
 (h : wpList prog ops Q rest (a.put o.dst (.agg (al t).toArray)) w) : wpList prog ops Q (o :: rest) a w :=
 bJ hgd _ x ho b 0 hx _ (al t) hg underlying229 rfl iS (bB _) h
theorem nK (hgd : o.guard = none) (x y : Operand) (ho : o.op = .store 229 x y) {b : Nat} {T : TypeId} (hx : a.eval x = .pointer (some ⟨b, 0, none⟩)) {t : Rs} (hy : a.eval y = .agg (al t).toArray) {t' : Rs} (hg : bP w b T t')
 (h : wpList prog ops Q rest (a.put o.dst undef) (w.setRow b (al t).toArray)) : wpList prog ops Q (o :: rest) a w := by
 refine aT hgd _ x y ho b 0 hx (al t) hy hg iS (by simp [al, s5]) (xO t) ?_
 rw [bR _ _ (by simp [al, s5])]
 exact h
end
theorem aBe {fn : Func} {p : Tmp} (h : fn.results = #[.cell p 229]) (tmps : Array Value) (w : World) {b : Nat} {T : TypeId} {t : Rs} (hp : tmps[p]? = some (.pointer (some ⟨b, 0, none⟩))) (hg : bP w b T t) :
 (results fn tmps).run prog w = .ok (.agg (al t).toArray) w :=
 bH h tmps w b 0 _ (al t) hp hg underlying229 rfl iS (bB _)
def jO (T : TypeId) (t : Rs) : Obj := .cells (al t).toArray T (0, 0)
theorem nD (T : TypeId) (t : Rs) : Obj.cells (al t).toArray T (0, 0) = jO T t := rfl
theorem oN (T : TypeId) : Obj.cells #[.int .u32 0, .int .u32 0, .int .u32 0, .int .u32 0, .bool false] T (0, 0) = jO T lA := rfl
theorem mJ (w : World) (T : TypeId) (t : Rs) : bP (w.alloc (jO T t)) w.heap.size T t := aD w _
def isz (t : Rs) : Bool := rI [t.ca, t.ct, 0, t.la] [0, 0, 0, 0] && (t.qs == false)
theorem mW {t : Rs} (h : t.ok) : isz t = false := by
 have hl := h.l0
 unfold isz rI
 rw [Bool.and_eq_false_iff]
 left
 rw [beq_eq_false_iff_ne]
 intro e
 simp only [List.cons.injEq, and_true] at e
 omega
theorem eqS (a b c d a' b' c' d' : Int) (e e' : Bool) (w : World) :
 (Op.equalIn 10000 229 (.agg (s5 a b c d e).toArray) (.agg (s5 a' b' c' d' e').toArray)).run prog w = .ok (rI [a, b, c, d] [a', b', c', d'] && (e == e')) w := by
 have hi : (prog.info? 27).isSome = true := by kernel_rfl
 obtain ⟨i, hi⟩ := Option.isSome_iff_exists.1 hi
 have hc : prog.cellsOf 27 = 1 := by kernel_rfl
 have h := run_equalIn_array w 9998 (i := i) #[.int .u32 a, .int .u32 b, .int .u32 c, .int .u32 d] #[.int .u32 a', .int .u32 b', .int .u32 c', .int .u32 d'] underlying227 hi
 rw [hc] at h
 have g := fJ 9997 27 .u32 underlying27 [a, b, c, d] [a', b', c', d'] w (List.range 4) (by intro i hi; simpa using hi)
 have r := jJ [a, b, c, d] [a', b', c', d'] rfl
 have key := (h.trans g).trans (congrArg (fun b => Result.ok b w) r)
 rw [run_equalIn_struct w 9999 229 _ _ (by kernel_rfl) (by kernel_rfl)]
 simp only [Program.fieldsOf, underlying229]
 simp only [Op.eqFields]
 have pa : ∀ (a b c d : Int) (e : Bool), (part 227 (s5 a b c d e).toArray 0).run prog w = .ok (.agg #[.int .u32 a, .int .u32 b, .int .u32 c, .int .u32 d]) w := fun a b c d e => by
  have hs : (sizeOf 227).run prog w = .ok 4 w := by kernel_rfl
  have ha : (isAgg 227).run prog w = .ok true w := by kernel_rfl
  simp [part, ha, hs, Sem.run_bind, s5]
 have pb : ∀ (a b c d : Int) (e : Bool), (part 4 (s5 a b c d e).toArray 4).run prog w = .ok (.bool e) w := fun a b c d e => by
  have ha : (isAgg 4).run prog w = .ok false w := by kernel_rfl
  simp [part, ha, Sem.run_bind, s5]
 rw [if_pos (by decide), if_pos (by decide)]
 simp only [Sem.run_bind, pa, pb, Result.andThen_ok, key]
 have hq := run_equalIn_bool w 9998 4 e e' underlying4
 rw [show 9998 + 1 = 9999 from rfl] at hq
 cases rI [a, b, c, d] [a', b', c', d']
 . simp
 . cases hx : e == e'
   . rw [hx] at hq; simp [pb, hq]
   . rw [hx] at hq; simp [pb, hq]
theorem aCB (s t : Rs) (w : World) : (Op.equalIn 10000 229 (.agg (al s).toArray) (.agg (al t).toArray)).run prog w = .ok (rI [s.ca, s.ct, 0, s.la] [t.ca, t.ct, 0, t.la] && (s.qs == t.qs)) w := eqS _ _ _ _ _ _ _ _ _ _ w
theorem yP {ops : Array Oper} {rest : List Oper} {o : Oper} {a : Act} {w : World} {Q : Exit -> Act -> World -> Prop} (hgd : o.guard = none) (x y : Operand) (u : TypeId) (ho : o.op = .binOp .eql 229 x y u) {t : Rs} (hx : a.eval x = .agg (al t).toArray) (hy : a.eval y = .agg (al lA).toArray)
 (h : wpList prog ops Q rest (a.put o.dst (.bool (isz t))) w) : wpList prog ops Q (o :: rest) a w :=
 wpList_plain hgd fun _ hK => by
  have hg : (eqGuard .eql 229 x y (.agg (al t).toArray) (.agg (al lA).toArray)).run prog w = .ok () w := by
   have e : prog.eqGuardType prog.depth 229 = false := by kernel_rfl
   simp [eqGuard, Sem.run_bind, run_program, e]
  have hb : (binOp .eql 229 (.agg (al t).toArray) (.agg (al lA).toArray)).run prog w = .ok (.bool (isz t)) w := by
   have e := aCB t lA w
   simp only [binOp, Op.equal, Sem.run_bind, Op.maxDepth]
   rw [e]
   rfl
  unfold Oper.wp execOp
  simp only [ho, hx, hy, Sem.run_bind, hg, hb, Result.andThen_ok]
  exact hK _ _ h
theorem nH (t : Rs) (w : World) : Calls prog 211 #[.agg (al t).toArray] w fun e w' => e = .returned (.bool (isz t)) /\ Below w.heap.size w w' := by
 have X := mJ w jU t
 have hb := aO (aV w) (jO jU t)
 go_enter func211, ntmps211
 go_upto_region 1 with (fail)
 rw [nD]
 generalize w.alloc (jO jU t) = W at *
 go_wp2_with (first | (refine oB rfl (.tmp 1) rfl rfl X ?_) | (refine yP rfl (.tmp 3) (.tmp 4) _ rfl rfl rfl ?_))
 go_ret
 exact ⟨rfl, hb⟩
theorem jR (t : Rs) (p : Nat) (w : World) (a : bP w p tS t) : Calls prog 160 #[.pointer (some ⟨p, 0, none⟩)] w fun e w' => e = .returned (.agg (al t).toArray) /\ Below w.heap.size w w' := by
 have X := mJ w jU lA
 have A := a.alloc (jO jU lA)
 have hb := aO (aV w) (jO jU lA)
 go_enter func160, ntmps160
 go_upto_region 1 with (fail)
 rw [oN]
 clear a
 generalize w.alloc (jO jU lA) = W at *
 have Z := bP.row X t
 have hB := aR hb (al t).toArray (g := w.heap.size) (Nat.le_refl _)
 go_wp2_with (first | (refine oB rfl (.tmp 8) rfl rfl A ?_) | (refine nK rfl (.tmp 2) (.tmp 9) rfl rfl (t := t) rfl X ?_))
 exact bodyPost_ret (aBe rfl _ _ rfl Z) rfl ⟨rfl, hB⟩
theorem aBh (w : World) : Calls prog 107 #[] w fun e w' => e = .returned (.pointer (some ⟨w.heap.size, 0, none⟩)) /\ bP w' w.heap.size tS rsN /\ Below w.heap.size w w' := by
 have X := mJ w tS lA
 have hb := aO (aV w) (jO tS lA)
 go_enter func107, ntmps107
 go_upto_region 2 with (fail)
 rw [oN]
 generalize w.alloc (jO tS lA) = W at *
 have f0 := X.free 0
 have f3 := X.free 3
 have x0 := X.c0
 have x3 := X.c3
 have Y1 := (X.s0 1).s3 1
 have Y2 := (X.s3 1).s0 1
 have B1 := (hb.setCell (p := ⟨w.heap.size, 0, none⟩) (Nat.le_refl _) (.int .u32 1)).setCell (p := ⟨w.heap.size, 3, none⟩) (Nat.le_refl _) (.int .u32 1)
 have B2 := (hb.setCell (p := ⟨w.heap.size, 3, none⟩) (Nat.le_refl _) (.int .u32 1)).setCell (p := ⟨w.heap.size, 0, none⟩) (Nat.le_refl _) (.int .u32 1)
 clear X hb
 go_region
 all_goals
  go_wp2_with fail
  go_ret
  first | exact ⟨rfl, Y1, B1⟩ | exact ⟨rfl, Y2, B2⟩ | exact ⟨rfl, Y1.below (qB (aV _)), qB B1⟩ | exact ⟨rfl, Y2.below (qB (aV _)), qB B2⟩
theorem aCD (ca ct ke la : Int) (qs : Bool) (w : World) : (Instr.field 229 (.agg #[.int .u32 ca, .int .u32 ct, .int .u32 ke, .int .u32 la, .bool qs]) 1).run prog w = .ok (.bool qs) w := by
 have ha : (isAgg 4).run prog w = .ok false w := by kernel_rfl
 simp [Instr.field, Sem.run_bind, run_underlying underlying229, part, ha, asAgg]
theorem oK (t : Rs) (p : Nat) (w : World) (a : bP w p tS t) : Calls prog 90 #[.pointer (some ⟨p, 0, none⟩)] w fun e w' => e = .returned (.bool t.qs) /\ Below w.heap.size w w' := by
 go_enter func90, ntmps90
 go_wp2_with fail
 refine (jR t p _ a).mono ?_
 rintro e w1 ⟨rfl, hb⟩
 have hf := aCD t.ca t.ct 0 t.la t.qs
 unfold al s5
 exact bX
end Go.Proofs.YtealhichdbimlaaGreat.B
