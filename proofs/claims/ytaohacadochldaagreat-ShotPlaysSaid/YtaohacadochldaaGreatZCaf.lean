/- A part of the proof of a law of layer 12: af. -/
import Derived.Test.YtaohacadochldaaGreatZCae
set_option linter.unusedVariables false
set_option linter.unusedSimpArgs false
set_option maxHeartbeats 12800000
set_option maxRecDepth 100000
namespace Go.Proofs.YtaohacadochldaaGreat.B
open Go.Proofs.Tryz
open Go.ChangeShapes Go.WideShapes Go.RowKit Go.Sort
abbrev tBk : TypeId := 244
abbrev tRm : TypeId := 296
def kC (k : Nat) : Value := .pointer (some ⟨k, 0, none⟩)
def rm (n : Nat) (q : Nat -> Nat) : List Value := (List.range 8).map fun i => if i < n then kC (q i) else .pointer none
theorem aAQ (n : Nat) (q : Nat -> Nat) : (rm n q).length = 8 := by simp [rm]
theorem aHQ (n : Nat) (q : Nat -> Nat) (i : Nat) (h : i < n) (h8 : n <= 8) : (rm n q)[i]? = some (kC (q i)) := by simp [rm, show i < 8 by omega, h]
theorem aMs (n : Nat) (q : Nat -> Nat) (r : Nat) (h : n < 8) : (rm n q).set n (kC r) = rm (n + 1) (fun i => if i = n then r else q i) := by
 apply List.ext_getElem?
 intro i
 rw [List.getElem?_set]
 by_cases e : n = i
 . subst e
   rw [if_pos rfl, if_pos (by rw [aAQ]; exact h), aHQ _ _ _ (by omega) (by omega)]
   simp
 . rw [if_neg e]
   by_cases h8 : i < 8
   . unfold rm
     simp only [List.getElem?_map, List.getElem?_range h8, Option.map_some]
     by_cases hi : i < n
     . rw [if_pos hi, if_pos (by omega), if_neg (fun x => e x.symm)]
     . rw [if_neg hi, if_neg (by omega)]
   . rw [List.getElem?_eq_none (by rw [aAQ]; omega), List.getElem?_eq_none (by rw [aAQ]; omega)]
structure hI (w : World) (g n : Nat) (q : Nat -> Nat) (t : Nat -> Tm) : Prop where
 room : w.heap[g]? = some (.cells (rm n q).toArray tRm (0, 0))
 tms : ∀ i, i < n -> jN w (q i) tC (t i)
 ok : ∀ i, i < n -> (t i).ok
 one : ∀ i j, i < n -> j < n -> q i = q j -> i = j
 n8 : n <= 8
structure cK (w : World) (p g n : Nat) (q : Nat -> Nat) (t : Nat -> Tm) : Prop where
 cell : w.heap[p]? = some (.cells #[.slice (some ⟨g, 0, none⟩) n n] tBk (0, 0))
 rm : hI w g n q t
def own (n : Nat) (q : Nat -> Nat) (k : Nat) : Prop := ∃ i, i < n /\ k = q i
section
variable {w w' : World} {p g n : Nat} {q : Nat -> Nat} {t s : Nat -> Tm}
theorem hI.lt (h : hI w g n q t) : g < w.heap.size := lt_of_block h.room
theorem hI.ltq (h : hI w g n q t) {i : Nat} (hi : i < n) : q i < w.heap.size := (h.tms i hi).lt
theorem hI.gne (h : hI w g n q t) {i : Nat} (hi : i < n) : q i ≠ g := aI (h.tms i hi) h.room rfl
theorem hI.below (h : hI w g n q t) (hb : Below w.heap.size w w') : hI w' g n q t :=
 ⟨aC hb h.room h.lt, fun i hi => (h.tms i hi).below hb, h.ok, h.one, h.n8⟩
theorem hI.off {S : Nat -> Prop} (h : hI w g n q t) (ho : aF S w w') (hg : ¬ S g) (hq : ∀ i, i < n -> ¬ S (q i)) : hI w' g n q t :=
 ⟨ho.at h.room hg, fun i hi => (h.tms i hi).off ho (hq i hi), h.ok, h.one, h.n8⟩
theorem hI.congr (h : hI w g n q t) (hs : ∀ i, i < n -> t i = s i) : hI w g n q s :=
 ⟨h.room, fun i hi => by rw [<- hs i hi]; exact h.tms i hi, fun i hi => by rw [<- hs i hi]; exact h.ok i hi, h.one, h.n8⟩
theorem hI.turn (h : hI w g n q t) {i : Nat} {x : Tm} (hi : i < n) (a : jN w' (q i) tC x) (ox : x.ok) (ho : aF (· = q i) w w') : hI w' g n q (oO t i x) :=
 ⟨ho.at h.room (fun e => h.gne hi e.symm), fun k hk => by
  by_cases e : k = i
  . subst e; rw [oH]; exact a
  . rw [oI _ _ e]; exact (h.tms k hk).off ho (fun e2 => e (h.one k i hk hi e2)), fun k hk => by
  by_cases e : k = i
  . subst e; rw [oH]; exact ox
  . rw [oI _ _ e]; exact h.ok k hk, h.one, h.n8⟩
theorem hI.cell (h : hI w g n q t) {i : Nat} (hi : i < n) : w.cell? ⟨g, i, none⟩ = some (.pointer (some ⟨q i, 0, none⟩)) := by
 rw [aA h.room i]
 simpa [kC] using aHQ n q i hi h.n8
theorem cK.ltp (h : cK w p g n q t) : p < w.heap.size := lt_of_block h.cell
theorem cK.c0 (h : cK w p g n q t) : w.cell? ⟨p, 0, none⟩ = some (.slice (some ⟨g, 0, none⟩) n n) := by rw [aA h.cell 0]; rfl
theorem cK.pne (h : cK w p g n q t) {i : Nat} (hi : i < n) : q i ≠ p := aI (h.rm.tms i hi) h.cell rfl
theorem cK.below (h : cK w p g n q t) (hb : Below w.heap.size w w') : cK w' p g n q t := ⟨aC hb h.cell h.ltp, h.rm.below hb⟩
theorem cK.off {S : Nat -> Prop} (h : cK w p g n q t) (ho : aF S w w') (hp : ¬ S p) (hg : ¬ S g) (hq : ∀ i, i < n -> ¬ S (q i)) : cK w' p g n q t := ⟨ho.at h.cell hp, h.rm.off ho hg hq⟩
theorem cK.congr (h : cK w p g n q t) (hs : ∀ i, i < n -> t i = s i) : cK w p g n q s := ⟨h.cell, h.rm.congr hs⟩
theorem cK.turn (h : cK w p g n q t) {i : Nat} {x : Tm} (hi : i < n) (a : jN w' (q i) tC x) (ox : x.ok) (ho : aF (· = q i) w w') : cK w' p g n q (oO t i x) :=
 ⟨ho.at h.cell (fun e => h.pne hi e.symm), h.rm.turn hi a ox ho⟩
theorem cK.get (h : cK w p g n q t) {i : Nat} (hi : i < n) : w.cell? ⟨g, i, none⟩ = some (.pointer (some ⟨q i, 0, none⟩)) := h.rm.cell hi
theorem cK.free (h : cK w p g n q t) (j : Nat) : w.frozen? ⟨g, j, none⟩ = false := aK h.rm.room j
end
theorem aF.own {n : Nat} {q : Nat -> Nat} {i : Nat} (hi : i < n) {w w' : World} (h : aF (· = q i) w w') : aF (own n q) w w' := h.mono fun k _ e => ⟨i, hi, e⟩
theorem aQI : Obj.cells #[.int .u32 0, .int .u32 0, .int .u32 0, .int .u32 0, .int .u64 0] 298 (0, 0) = .cells (wl tz).toArray 298 (0, 0) := rfl
theorem aOX (t : Tm) (n : Int) (p : Nat) (w : World) (h : t.ok) (a : jN w p tC t) (n0 : 0 <= n) (n1 : n < 18446744073709551616) :
 Calls prog 282 #[.pointer (some ⟨p, 0, none⟩), .int .u64 n] w fun e w' => e = .returned (.tuple #[]) /\ jN w' p tC (t.tick n) /\ aF (· = p) w w' := by
 obtain ⟨R, hR⟩ : ∃ R, t.tick n = R := ⟨_, rfl⟩
 rw [hR]
 have HR := Hd hR
 clear hR
 go_enter func282, ntmps282
 go_wp2_with fail
 go_loopw [1] (fun x wr => ∃ (m : Int) (s : Tm), x = .int .u64 m /\ 0 <= m /\ m < 18446744073709551616 /\ s.ok /\ jN wr p tC s /\ aF (· = p) w wr /\ Hid (s.tick m = R)) (fun x wr => (intOf x).toNat)
 case atStart => exact ⟨n, t, rfl, n0, n1, h, a, aF.refl _ _, HR⟩
 case round =>
  clear a h HR n0 n1
  obtain ⟨m, s, rfl, m0, m1, h, a, ho, HR⟩ := hrel
  have hL := h.left
  have RN := Hd (fun w a => aDp s p w h a)
  cases hen : s.en
  . rw [hen] at RN
    go_wp2_with fail
    refine (RN.out _ a).mono ?_
    rintro e w1 ⟨rfl, hb⟩
    have a1 := a.below hb
    have ho1 := ho.trans (aF.ofBelow hb)
    clear a hb ho
    go_wp2_with fail
    refine (RN.out _ a1).mono ?_
    rintro e w2 ⟨rfl, hb⟩
    have a2 := a1.below hb
    have ho2 := ho1.trans (aF.ofBelow hb)
    clear a1 hb ho1
    go_wp2_with fail
    go_end0
    refine ⟨rfl, ?_, ho2⟩
    rw [<- HR.out, Tm.tick_off hen]; exact a2
  . rw [hen] at RN
    have LF := Hd (fun w => aMJ s w h)
    go_wp2_with fail
    refine (RN.out _ a).mono ?_
    rintro e w1 ⟨rfl, hb⟩
    have a1 := a.below hb
    have ho1 := ho.trans (aF.ofBelow hb)
    clear a hb ho
    go_wp2_with (refine aCi (.tmp 11) rfl rfl rfl a1 ?_)
    refine (LF.out _).mono ?_
    rintro e w2 ⟨rfl, hb⟩
    have a := a1.below hb
    have ho := ho1.trans (aF.ofBelow hb)
    clear a1 hb ho1
    by_cases hle : s.left <= m
    . go_wp2_with (refine uL rfl (.tmp 19) rfl rfl a ?_)
      refine (LF.out _).mono ?_
      rintro e w1 ⟨rfl, hb⟩
      have a1 := a.below hb
      have ho1 := ho.trans (aF.ofBelow hb)
      clear a hb ho
      have HE := Hd (show s.exp.tick (m - s.left) = R by rw [<- Tm.tick_ge h hen hle]; exact HR.out)
      clear HR LF RN
      have zq : jN (w1.alloc (.cells (wl tz).toArray 298 (0, 0))) w1.heap.size 298 tz := aD w1 (.cells (wl tz).toArray 298 (0, 0))
      have hpq : p ≠ w1.heap.size := by have := a1.lt; omega
      have aP := (a1.below (aE (aH w1) (.cells (wl tz).toArray 298 (0, 0)))).elseRow w1.heap.size (wl s).toArray hpq
      have aQ := jN.row zq s
      have hq0 : w.heap.size <= w1.heap.size := ho1.size
      have hoP : aF (· = p) w ((w1.alloc (.cells (wl tz).toArray 298 (0, 0))).setRow w1.heap.size (wl s).toArray) :=
       ho1.trans (aF.ofBelow (aB (aE (aH w1) _) _ (Nat.le_refl _)))
      go_upto_region 3 with (first | (refine uL rfl (.tmp 25) rfl rfl a1 ?_) | (refine vF rfl (.tmp 4) (.tmp 26) rfl rfl rfl zq ?_))
      rw [aQI]
      clear a1 zq ho1
      generalize ((w1.alloc (.cells (wl tz).toArray 298 (0, 0))).setRow w1.heap.size (wl s).toArray) = W2 at *
      generalize w1.heap.size = q at *
      go_wp2_with (refine uL rfl (.tmp 30) rfl rfl aP ?_)
      refine (aPx s _ h).mono ?_
      rintro e W3 ⟨rfl, hb⟩
      have aP1 := aP.below hb
      have aQ1 := aQ.below hb
      have ho1 := hoP.trans (aF.ofBelow hb)
      clear aP aQ hoP hb
      have aP := jN.row aP1 s.exp
      have aQ := aQ1.elseRow p (wl s.exp).toArray (fun e => hpq e.symm)
      have ho := ho1.trans (sY W3 p (wl s.exp).toArray)
      go_upto_region 4 with (refine vF rfl (.tmp 34) (.tmp 32) rfl rfl rfl aP1 ?_)
      clear aP1 aQ1 ho1
      generalize W3.setRow p (wl s.exp).toArray = W4 at *
      have hE := Tm.exp_ok h
      have hEL := hE.left
      cases hq : eqT s.exp s
      . go_simp
        refine wp_region_quiet_below (by kernel_rfl) (by kernel_rfl) ?_
        repeat (first
         | go_big_quiet_skip
         | (go_big_quiet_want; first
             | (refine aAP (.tmp 37) rfl rfl aP.grown ?_; go_simp; go_big_quiet_on)
             | (refine aAP (.tmp 4) rfl rfl aQ.grown ?_; go_simp; go_big_quiet_on)
             | (refine aOk (.tmp 38) (.tmp 39) _ rfl rfl rfl ?_; go_simp; go_big_quiet_on)
             | (go_big_quiet_op; first | go_big_quiet_on)))
        refine wpQuiet_nil ?_
        intro _ hw'
        obtain ⟨⟨dq, osq⟩, hw''⟩ := hw'
        subst hw''
        have hbr := below_regrown W4 dq osq
        go_wp2_with fail
        go_roundw
        case rel => exact ⟨m - s.left, s.exp, rfl, by omega, by omega, hE, aP.below hbr, ho.trans (aF.ofBelow hbr), HE⟩
        case measure => simp [intOf]; omega
      . have hs := aIa hen hq
        have hm := fU (a := m - s.left) (u := s.exp.left) (by omega)
        have hm2 : (m - s.left) % s.exp.left <= m - s.left := by
         by_cases c : m - s.left < s.exp.left
         . rw [Int.emod_eq_of_lt (by omega) c]; omega
         . omega
        have HE2 := Hd (show s.exp.tick ((m - s.left) % s.exp.left) = R by rw [<- HE.out]; exact (Tm.tick_mod hE (by rw [hs]; exact hen) (by rw [hs]; exact hs) _ (by omega)).symm)
        have LF := Hd (fun w => aMJ s.exp w hE)
        clear hs
        go_simp
        refine wp_region_quiet_below (by kernel_rfl) (by kernel_rfl) ?_
        repeat (first
         | go_big_quiet_skip
         | (go_big_quiet_want; first
             | (refine aAP (.tmp 37) rfl rfl aP.grown ?_; go_simp; go_big_quiet_on)
             | (refine aAP (.tmp 4) rfl rfl aQ.grown ?_; go_simp; go_big_quiet_on)
             | (refine aOk (.tmp 38) (.tmp 39) _ rfl rfl rfl ?_; go_simp; go_big_quiet_on)
             | (go_big_quiet_op; first | go_big_quiet_on)))
        refine wpQuiet_nil ?_
        intro _ hw'
        obtain ⟨⟨dq, osq⟩, hw''⟩ := hw'
        subst hw''
        have hbr := below_regrown W4 dq osq
        have a1 := aP.below hbr
        have ho1 := ho.trans (aF.ofBelow hbr)
        clear aP aQ ho hbr HE
        go_wp2_with (refine uL rfl (.tmp 44) rfl rfl a1 ?_)
        refine (LF.out _).mono ?_
        rintro e W5 ⟨rfl, hb⟩
        have a := a1.below hb
        have ho := ho1.trans (aF.ofBelow hb)
        clear a1 ho1 hb
        go_wp2_with fail
        go_roundw
        case rel => exact ⟨(m - s.left) % s.exp.left, s.exp, rfl, hm.1, by omega, hE, a, ho, HE2⟩
        case measure => simp [intOf]; omega
    . go_wp2_with fail
      refine (RN.out _ a).mono ?_
      rintro e w1 ⟨rfl, hb⟩
      have a1 := a.below hb
      have ho1 := ho.trans (aF.ofBelow hb)
      clear a hb ho
      go_wp2_with (refine uL rfl (.tmp 53) rfl rfl a1 ?_)
      refine (aPy s m _ h m0 (by omega)).mono ?_
      rintro e w2 ⟨rfl, hb⟩
      have a := a1.below hb
      have ho := ho1.trans (aF.ofBelow hb)
      clear a1 hb ho1
      go_wp2_with (refine vF rfl (.tmp 58) (.tmp 56) rfl rfl rfl a ?_)
      go_end0
      refine ⟨rfl, ?_, ho.trans (sY _ _ _)⟩
      rw [<- HR.out, Tm.tick_lt hen (by omega)]; exact jN.row a _
theorem aBo (t : Nat -> Tm) (f : Tm -> Tm) (k i : Nat) : oO (fun i => if i < k then f (t i) else t i) k (f (t k)) i = if i < k + 1 then f (t i) else t i := by
 by_cases e : i = k
 . subst e; rw [oH, if_pos (by omega)]
 . rw [oI _ _ e]
   by_cases c : i < k
   . rw [if_pos (show i < k + 1 by omega)]; exact if_pos c
   . rw [if_neg (show ¬ i < k + 1 by omega)]; exact if_neg c
section
variable {p g n : Nat} {q : Nat -> Nat} {t : Nat -> Tm} {w : World}
theorem aEE (h : cK w p g n q t) : Calls prog 201 #[.pointer (some ⟨p, 0, none⟩)] w fun e w' => e = .returned (.slice (some ⟨g, 0, none⟩) n n) /\ w = w' := by
 have c0 := h.c0
 clear h
 go_enter func201, ntmps201
 exact aU
theorem aEF (h : cK w p g n q t) : Calls prog 153 #[.pointer (some ⟨p, 0, none⟩)] w fun e w' => e = .returned (.int .i64 n) /\ w = w' := by
 go_enter func153, ntmps153
 go_wp2_with fail
 refine (aEE h).mono ?_
 rintro e w1 ⟨rfl, rfl⟩
 exact aU
theorem aNk (h : cK w p g n q t) (N : Int) (n0 : 0 <= N) (n1 : N < 18446744073709551616) :
 Calls prog 278 #[.pointer (some ⟨p, 0, none⟩), .int .u64 N] w fun e w' => e = .returned (.tuple #[]) /\ cK w' p g n q (fun i => (t i).tick N) /\ aF (own n q) w w' := by
 have n8 := h.rm.n8
 go_enter func278, ntmps278
 go_wp2_with fail
 refine (aEE h).mono ?_
 rintro e w1 ⟨rfl, rfl⟩
 go_wp2_with fail
 go_loopw [9] (fun i wr => ∃ k : Nat, k <= n /\ i = .int .i64 k /\ cK wr p g n q (fun i => if i < k then (t i).tick N else t i) /\ aF (own n q) w wr) (fun i wr => n - (intOf i).toNat)
 case atStart => exact ⟨0, by omega, rfl, h.congr (fun i _ => by simp), aF.refl _ _⟩
 case round =>
  obtain ⟨k, hk, rfl, H, ho⟩ := hrel
  by_cases hlt : k < n
  . have hc := H.get hlt
    have ht := H.rm.tms k hlt
    have ok := H.rm.ok k hlt
    simp only [Nat.lt_irrefl, if_false] at ht ok
    have HH := Hd H
    have HO := Hd ho
    clear H ho h
    go_wp2_with fail
    refine (aOX (t k) N (q k) wr ok ht n0 n1).mono ?_
    rintro e w2 ⟨rfl, a2, ho2⟩
    have H2 := (HH.out.turn hlt a2 (Tm.tick_ok ok n0) ho2).congr (s := fun i => if i < k + 1 then (t i).tick N else t i) (fun i _ => aBo t (fun x => x.tick N) k i)
    have HO2 := HO.out.trans (ho2.own hlt)
    clear HH HO ho2 a2 ht ok hc
    go_wp2_with fail
    go_roundw
    case rel => exact ⟨k + 1, by omega, by go_num, H2, HO2⟩
    case measure => simp [intOf]; omega
  . obtain rfl : k = n := by omega
    go_wp2_with fail
    go_end0
    exact ⟨rfl, H.congr (fun i hi => if_pos hi), ho⟩
theorem aK3 (h : cK w p g n q t) :
 Calls prog 276 #[.pointer (some ⟨p, 0, none⟩)] w fun e w' => e = .returned (.tuple #[]) /\ cK w' p g n q (fun i => tz) /\ aF (own n q) w w' := by
 have n8 := h.rm.n8
 go_enter func276, ntmps276
 go_wp2_with fail
 refine (aEE h).mono ?_
 rintro e w1 ⟨rfl, rfl⟩
 go_wp2_with fail
 go_loopw [7] (fun i wr => ∃ k : Nat, k <= n /\ i = .int .i64 k /\ cK wr p g n q (fun i => if i < k then tz else t i) /\ aF (own n q) w wr) (fun i wr => n - (intOf i).toNat)
 case atStart => exact ⟨0, by omega, rfl, h.congr (fun i _ => by simp), aF.refl _ _⟩
 case round =>
  obtain ⟨k, hk, rfl, H, ho⟩ := hrel
  by_cases hlt : k < n
  . have hc := H.get hlt
    have ht := H.rm.tms k hlt
    simp only [Nat.lt_irrefl, if_false] at ht
    have HH := Hd H
    have HO := Hd ho
    clear H ho h
    go_wp2_with fail
    refine (aML (t k) (q k) wr ht).mono ?_
    rintro e w2 ⟨rfl, rfl⟩
    have ho2 := sY wr (q k) (wl tz).toArray
    have H2 := (HH.out.turn hlt (jN.row ht tz) aD5 ho2).congr (s := fun i => if i < k + 1 then tz else t i) (fun i _ => aBo t (fun _ => tz) k i)
    have HO2 := HO.out.trans (ho2.own hlt)
    clear HH HO ho2 ht hc
    generalize wr.setRow (q k) (wl tz).toArray = W2 at *
    go_wp2_with fail
    go_roundw
    case rel => exact ⟨k + 1, by omega, by go_num, H2, HO2⟩
    case measure => simp [intOf]; omega
  . obtain rfl : k = n := by omega
    go_wp2_with fail
    go_end0
    exact ⟨rfl, H.congr (fun i hi => if_pos hi), ho⟩
theorem aFI (h : cK w p g n q t) :
 Calls prog 189 #[.pointer (some ⟨p, 0, none⟩), .func (.func 190) #[] #[]] w fun e w' => e = .returned (.int .u32 (ob (fun i => (t i).st && (t i).iq) n)) /\ Below w.heap.size w w' := by
 have n8 := h.rm.n8
 go_enter func189, ntmps189
 go_wp2_with fail
 refine (aEE h).mono ?_
 rintro e w1 ⟨rfl, rfl⟩
 go_wp2_with fail
 go_loopw [5, 11] (fun a i wr => ∃ (k : Nat) (X : Int), k <= n /\ i = .int .i64 k /\ a = .int .u32 X /\ 0 <= X /\ X < 4294967296 /\ Hid (X = ob (fun i => (t i).st && (t i).iq) k) /\ cK wr p g n q t /\ Below w.heap.size w wr) (fun a i wr => n - (intOf i).toNat)
 case atStart => exact ⟨0, 0, by omega, rfl, rfl, by omega, by omega, Hd rfl, h, aH w⟩
 case round =>
  clear h
  obtain ⟨k, X, hk, rfl, rfl, X0, X1, hX, H, hB⟩ := hrel
  by_cases hlt : k < n
  . have hc := H.get hlt
    have ht := H.rm.tms k hlt
    have ok := H.rm.ok k hlt
    have HH := Hd H
    have ho := aKW (fun i => (t i).st && (t i).iq) k (by omega)
    have hbd := gW (fun i => (t i).st && (t i).iq) (k + 1) (by omega)
    have hun := lI k
    rw [<- hX.out] at ho
    have hy := uR (fun i => (t i).st && (t i).iq) k (by omega)
    have hno := yM (fun i => (t i).st && (t i).iq) k
    obtain ⟨f, hf⟩ : ∃ f, ((t k).st && (t k).iq) = f := ⟨_, rfl⟩
    have C := aKT (t k) (q k) wr ok ht
    rw [hf] at C
    rw [hf] at hy hno
    have HY := Hd hy
    have HN := Hd hno
    have HB := Hd hbd
    clear H hf hy hno hbd
    cases f
    . go_wp2_with fail
      refine C.mono ?_
      rintro e w2 ⟨rfl, hb⟩
      have H2 := HH.out.below hb
      have hB2 := tr hB hb
      clear HH hc ht hb ho hun C
      go_wp2_with fail
      go_roundw
      case rel => exact ⟨k + 1, X, by omega, by go_num, rfl, X0, X1, Hd (by rw [HN.out (by simp)]; exact hX.out), H2, hB2⟩
      case measure => simp [intOf]; omega
    . have HO := Hd ho
      clear ho
      go_wp2_with fail
      refine C.mono ?_
      rintro e w2 ⟨rfl, hb⟩
      have H2 := HH.out.below hb
      have hB2 := tr hB hb
      clear HH hc ht hb C
      go_wp2_with fail
      go_roundw
      case rel => exact ⟨k + 1, ob (fun i => (t i).st && (t i).iq) (k + 1), by omega, by go_num, by rw [HY.out (by simp), <- hX.out, <- HO.out]; rfl, HB.out.1, HB.out.2, Hd rfl, H2, hB2⟩
      case measure => simp [intOf]; omega
  . obtain rfl : k = n := by omega
    go_wp2_with fail
    go_ret
    exact ⟨bJ hX.out, hB⟩
theorem aFK (h : cK w p g n q t) :
 Calls prog 113 #[.pointer (some ⟨p, 0, none⟩)] w fun e w' => e = .returned (.int .u32 (ob (fun i => (t i).st && (t i).iq) n)) /\ Below w.heap.size w w' := by
 go_enter func113, ntmps113
 go_wp2_with fail
 refine (aFI h).mono ?_
 rintro e w1 ⟨rfl, hb⟩
 exact bS
theorem aFJ (h : cK w p g n q t) :
 Calls prog 189 #[.pointer (some ⟨p, 0, none⟩), .func (.func 203) #[] #[]] w fun e w' => e = .returned (.int .u32 (ob (fun i => (t i).en) n)) /\ Below w.heap.size w w' := by
 have n8 := h.rm.n8
 go_enter func189, ntmps189
 go_wp2_with fail
 refine (aEE h).mono ?_
 rintro e w1 ⟨rfl, rfl⟩
 go_wp2_with fail
 go_loopw [5, 11] (fun a i wr => ∃ (k : Nat) (X : Int), k <= n /\ i = .int .i64 k /\ a = .int .u32 X /\ 0 <= X /\ X < 4294967296 /\ Hid (X = ob (fun i => (t i).en) k) /\ cK wr p g n q t /\ Below w.heap.size w wr) (fun a i wr => n - (intOf i).toNat)
 case atStart => exact ⟨0, 0, by omega, rfl, rfl, by omega, by omega, Hd rfl, h, aH w⟩
 case round =>
  clear h
  obtain ⟨k, X, hk, rfl, rfl, X0, X1, hX, H, hB⟩ := hrel
  by_cases hlt : k < n
  . have hc := H.get hlt
    have ht := H.rm.tms k hlt
    have ok := H.rm.ok k hlt
    have HH := Hd H
    have ho := aKW (fun i => (t i).en) k (by omega)
    have hbd := gW (fun i => (t i).en) (k + 1) (by omega)
    have hun := lI k
    rw [<- hX.out] at ho
    have hy := uR (fun i => (t i).en) k (by omega)
    have hno := yM (fun i => (t i).en) k
    obtain ⟨f, hf⟩ : ∃ f, ((t k).en) = f := ⟨_, rfl⟩
    have C := aDp (t k) (q k) wr ok ht
    rw [hf] at C
    rw [hf] at hy hno
    have HY := Hd hy
    have HN := Hd hno
    have HB := Hd hbd
    clear H hf hy hno hbd
    cases f
    . go_wp2_with fail
      refine C.mono ?_
      rintro e w2 ⟨rfl, hb⟩
      have H2 := HH.out.below hb
      have hB2 := tr hB hb
      clear HH hc ht hb ho hun C
      go_wp2_with fail
      go_roundw
      case rel => exact ⟨k + 1, X, by omega, by go_num, rfl, X0, X1, Hd (by rw [HN.out (by simp)]; exact hX.out), H2, hB2⟩
      case measure => simp [intOf]; omega
    . have HO := Hd ho
      clear ho
      go_wp2_with fail
      refine C.mono ?_
      rintro e w2 ⟨rfl, hb⟩
      have H2 := HH.out.below hb
      have hB2 := tr hB hb
      clear HH hc ht hb C
      go_wp2_with fail
      go_roundw
      case rel => exact ⟨k + 1, ob (fun i => (t i).en) (k + 1), by omega, by go_num, by rw [HY.out (by simp), <- hX.out, <- HO.out]; rfl, HB.out.1, HB.out.2, Hd rfl, H2, hB2⟩
      case measure => simp [intOf]; omega
  . obtain rfl : k = n := by omega
    go_wp2_with fail
    go_ret
    exact ⟨bJ hX.out, hB⟩
theorem aNj (h : cK w p g n q t) :
 Calls prog 157 #[.pointer (some ⟨p, 0, none⟩)] w fun e w' => e = .returned (.int .u32 (ob (fun i => (t i).en) n)) /\ Below w.heap.size w w' := by
 go_enter func157, ntmps157
 go_wp2_with fail
 refine (aFJ h).mono ?_
 rintro e w1 ⟨rfl, hb⟩
 exact bS
end
section
variable {p g n : Nat} {q : Nat -> Nat} {t : Nat -> Tm} {w : World}
theorem aFM (h : cK w p g n q t) (i : Nat) (hi : i < n) : Calls prog 158 #[.pointer (some ⟨p, 0, none⟩), .int .i64 i] w fun e w' => e = .returned (.pointer (some ⟨w.heap.size, 0, none⟩)) /\ w' = w.alloc (.cells (wl (t i)).toArray tC (0, 0)) := by
 have n8 := h.rm.n8
 have c0 := h.c0
 have hc := h.get hi
 have ht := h.rm.tms i hi
 have H := Hd h
 clear h
 go_enter func158, ntmps158
 go_wp2_with fail
 refine (aEF H.out).mono ?_
 rintro e w1 ⟨rfl, rfl⟩
 go_wp2_with fail
 refine (aOV (t i) (q i) _ ht).mono ?_
 rintro e w1 ⟨rfl, rfl⟩
 exact aU
theorem aAq (h : cK w p g n q t) (i : Int) (hi : i < 0 \/ (n : Int) <= i) : Calls prog 158 #[.pointer (some ⟨p, 0, none⟩), .int .i64 i] w fun e w' => e = .returned (.pointer none) /\ w = w' := by
 have n8 := h.rm.n8
 by_cases h0 : i < 0
 . go_enter func158, ntmps158
   exact aU
 . have h1 : (n : Int) <= i := by omega
   clear hi
   go_enter func158, ntmps158
   go_wp2_with fail
   refine (aEF h).mono ?_
   rintro e w1 ⟨rfl, rfl⟩
   exact aU
theorem qZ {P : Prop} (h : P := by
 simp [results, results279, go_sem]
 ) : P := h
theorem aDO (h : cK w p g n q t) (o E : Int) (o0 : 0 <= o) (o1 : o < 4294967296) (hE : jT n o = E) (hne : E ≠ 0) :
 Calls prog 279 #[.pointer (some ⟨p, 0, none⟩), .int .u32 o] w fun e w' => e = .returned (.tuple #[.pointer none, .int .u32 0, .int .i64 E]) /\ w = w' := by
 have n8 := h.rm.n8
 have H := Hd h
 clear h
 unfold jT at hE
 cases h4 : (o % 4 != 0)
 . rw [h4, if_neg (by simp)] at hE
   by_cases hn : (n : Int) <= o / 32
   . rw [if_pos hn] at hE
     subst hE
     clear hne
     go_enter func279, ntmps279
     go_wp2_with fail
     refine (aEF H.out).mono ?_
     rintro e w1 ⟨rfl, rfl⟩
     go_wp2_with fail
     refine bodyPost_ret (v := .tuple #[.pointer none, .int .u32 0, .int .i64 10]) ?_ rfl ⟨rfl, rfl⟩
     exact qZ
   . rw [if_neg hn] at hE
     exact absurd hE.symm hne
 . rw [h4, if_pos rfl] at hE
   subst hE
   clear hne
   go_enter func279, ntmps279
   go_wp2_with fail
   refine bodyPost_ret (v := .tuple #[.pointer none, .int .u32 0, .int .i64 11]) ?_ rfl ⟨rfl, rfl⟩
   exact qZ
theorem lC {n : Nat} {o : Int} (o0 : 0 <= o) (h : jT n o = 0) : (o % 4 != 0) = false /\ o / 32 < n /\ (o / 32).toNat < n := by
 unfold jT at h
 cases h4 : (o % 4 != 0)
 . rw [h4, if_neg (by simp)] at h
   by_cases hn : (n : Int) <= o / 32
   . rw [if_pos hn] at h; omega
   . exact ⟨rfl, by omega, by omega⟩
 . rw [h4, if_pos rfl] at h; omega
theorem aJ4 (h : cK w p g n q t) (o : Int) (o0 : 0 <= o) (o1 : o < 4294967296) (hE : jT n o = 0) :
 Calls prog 279 #[.pointer (some ⟨p, 0, none⟩), .int .u32 o] w fun e w' => e = .returned (.tuple #[.pointer (some ⟨q (o / 32).toNat, 0, none⟩), .int .u32 (o % 32), .int .i64 0]) /\ w = w' := by
 obtain ⟨h4, hn, hk⟩ := lC o0 hE
 have n8 := h.rm.n8
 have c0 := h.c0
 have hc := h.get hk
 have H := Hd h
 clear h hE
 go_enter func279, ntmps279
 go_wp2_with fail
 refine (aEF H.out).mono ?_
 rintro e w1 ⟨rfl, rfl⟩
 go_wp2_with fail
 refine bodyPost_ret (v := .tuple #[.pointer (some ⟨q (o / 32).toNat, 0, none⟩), .int .u32 (o % 32), .int .i64 0]) ?_ rfl ⟨rfl, rfl⟩
 exact qZ
end
def jP (n : Nat) (o : Int) : Int := if jT n o = 0 then fR (o % 32) else jT n o
def zY (n : Nat) (t : Nat -> Tm) (o : Int) : Int := if jT n o = 0 then (t (o / 32).toNat).val (o % 32) else 0
def mE (n : Nat) (o : Int) : Int := if jT n o = 0 then fV (o % 32) else jT n o
def kL (n : Nat) (t : Nat -> Tm) (o x : Int) : Nat -> Tm := if mE n o = 0 then oO t (o / 32).toNat ((t (o / 32).toNat).sto (o % 32) x) else t
section
variable {p g n : Nat} {q : Nat -> Nat} {t : Nat -> Tm} {w : World}
theorem aNh (h : cK w p g n q t) (o : Int) (o0 : 0 <= o) (o1 : o < 4294967296) :
 Calls prog 275 #[.pointer (some ⟨p, 0, none⟩), .int .u32 o] w fun e w' => e = .returned (.tuple #[.int .u32 (zY n t o), .int .i64 (jP n o)]) /\ w = w' := by
 unfold zY jP
 by_cases hE : jT n o = 0
 . rw [if_pos hE, if_pos hE]
   obtain ⟨_, _, hk⟩ := lC o0 hE
   have C := aKU (t (o / 32).toNat) (o % 32) (q (o / 32).toNat) w (h.rm.ok _ hk) (h.rm.tms _ hk) (by omega) (by omega)
   have F := aJ4 h o o0 o1 hE
   generalize (t (o / 32).toNat).val (o % 32) = V at *
   generalize fR (o % 32) = E at *
   generalize q (o / 32).toNat = r at *
   generalize o % 32 = s at *
   clear h hE hk
   go_enter func275, ntmps275
   go_wp2_with fail
   refine F.mono ?_
   rintro e w1 ⟨rfl, rfl⟩
   go_wp2_with fail
   refine C.mono ?_
   rintro e w1 ⟨rfl, rfl⟩
   exact nO
 . rw [if_neg hE, if_neg hE]
   have F := aDO h o _ o0 o1 rfl hE
   have hn : (jT n o == 0) = false := by simpa using hE
   have hn2 : (jT n o != 0) = true := by simpa using hE
   generalize jT n o = E at *
   clear h hE
   go_enter func275, ntmps275
   go_wp2_with fail
   refine F.mono ?_
   rintro e w1 ⟨rfl, rfl⟩
   exact nO
theorem aK4 (h : cK w p g n q t) (o x : Int) (o0 : 0 <= o) (o1 : o < 4294967296) (x0 : 0 <= x) (x1 : x < 4294967296) :
 Calls prog 277 #[.pointer (some ⟨p, 0, none⟩), .int .u32 o, .int .u32 x] w fun e w' => e = .returned (.int .i64 (mE n o)) /\ cK w' p g n q (kL n t o x) /\ aF (own n q) w w' := by
 unfold kL mE
 by_cases hE : jT n o = 0
 . rw [if_pos hE]
   obtain ⟨_, _, hk⟩ := lC o0 hE
   have hok := h.rm.ok _ hk
   have C := aMM (t (o / 32).toNat) (o % 32) x (q (o / 32).toNat) w hok (h.rm.tms _ hk) (by omega) (by omega) x0 x1
   have F := aJ4 h o o0 o1 hE
   have hso : (if fV (o % 32) = 0 then (t (o / 32).toNat).sto (o % 32) x else t (o / 32).toNat).ok := by
    split
    . exact Tm.sto_ok hok _ _ x0 x1
    . exact hok
   have hcg : ∀ i, i < n -> oO t (o / 32).toNat (if fV (o % 32) = 0 then (t (o / 32).toNat).sto (o % 32) x else t (o / 32).toNat) i = (if fV (o % 32) = 0 then oO t (o / 32).toNat ((t (o / 32).toNat).sto (o % 32) x) else t) i := by
    intro i _
    by_cases hs : fV (o % 32) = 0
    . rw [if_pos hs, if_pos hs]
    . rw [if_neg hs, if_neg hs]
      by_cases e : i = (o / 32).toNat
      . subst e; exact oH _ _ _
      . exact oI _ _ e
   have H := Hd h
   have HC := Hd hcg
   have HS := Hd hso
   clear hcg hso hok h hE
   have HT := fun (w' : World) (S : Tm) (ho : aF (· = q (o / 32).toNat) w w') (a : jN w' (q (o / 32).toNat) tC S) (os : S.ok) => (H.out.turn hk a os ho)
   have HO := fun (w' : World) (ho : aF (· = q (o / 32).toNat) w w') => ho.own hk
   have HT := Hd HT
   have HO := Hd HO
   generalize hS : (if fV (o % 32) = 0 then (t (o / 32).toNat).sto (o % 32) x else t (o / 32).toNat) = S at *
   generalize hT : (if fV (o % 32) = 0 then oO t (o / 32).toNat ((t (o / 32).toNat).sto (o % 32) x) else t) = T at *
   clear hS hT H
   generalize fV (o % 32) = E at *
   generalize (o / 32).toNat = r at *
   generalize o % 32 = s at *
   go_enter func277, ntmps277
   go_wp2_with fail
   refine F.mono ?_
   rintro e w1 ⟨rfl, rfl⟩
   go_wp2_with fail
   refine C.mono ?_
   rintro e w1 ⟨rfl, a, ho⟩
   go_wp2_with fail
   go_ret
   exact ⟨rfl, (HT.out _ _ ho a HS.out).congr HC.out, HO.out _ ho⟩
 . rw [if_neg hE, if_neg hE]
   have F := aDO h o _ o0 o1 rfl hE
   have hn : (jT n o == 0) = false := by simpa using hE
   have hn2 : (jT n o != 0) = true := by simpa using hE
   generalize jT n o = E at *
   clear hE
   have H := Hd h
   clear h
   go_enter func277, ntmps277
   go_wp2_with fail
   refine F.mono ?_
   rintro e w1 ⟨rfl, rfl⟩
   go_wp2_with fail
   go_ret
   exact ⟨rfl, H.out, aF.refl _ _⟩
end
structure Wd where
 en : Bool
 lk : Bool
 ar : Bool
 cl : Int
 tot : Int
 si : Int
 fa : Int
structure Wd.ok (t : Wd) : Prop where
 c0 : 0 <= t.cl
 c1 : t.cl < 4294967296
 t0 : 0 <= t.tot
 t1 : t.tot < 4294967296
 s0 : 0 <= t.si
 s1 : t.si <= t.tot
 run : t.en = true -> t.fa = 0 -> t.si < t.tot
 win : t.en = true -> t.cl < t.tot
 fa : t.fa = 0 \/ t.fa = 2 \/ t.fa = 4 \/ t.fa = 8
 idle : t.en = false -> t.fa = 0 /\ t.si = 0 /\ t.ar = false
def wz : Wd := ⟨false, false, false, 0, 0, 0, 0⟩
theorem aKv : wz.ok := ⟨by decide, by decide, by decide, by decide, by decide, by decide, by decide, by decide, .inl rfl, fun _ => ⟨rfl, rfl, rfl⟩⟩
def Wd.left (t : Wd) : Int := if t.en = true /\ t.fa = 0 then t.tot - t.si else 18446744073709551615
def Wd.tick (t : Wd) (n : Int) : Wd := if t.en = true /\ t.fa = 0 then (if t.tot <= t.si + n then { t with si := t.tot, fa := 2 } else { t with si := t.si + n }) else t
def Wd.ran (t : Wd) (n : Int) : Int := if t.fa ≠ 0 then 0 else if t.en = true then (if t.tot <= t.si + n then t.tot - t.si else n) else n
theorem Wd.tick_ok {t : Wd} (h : t.ok) {n : Int} (n0 : 0 <= n) : (t.tick n).ok := by
 obtain ⟨c0, c1, t0, t1, s0, s1, run, win, fa, idle⟩ := h
 unfold Wd.tick
 split
 . rename_i he
   split
   . exact ⟨c0, c1, t0, t1, t0, Int.le_refl _, fun _ h => absurd h (show ¬ (2 : Int) = 0 by decide), win, .inr (.inl rfl), fun h => absurd (he.1.symm.trans h) (by decide)⟩
   . exact ⟨c0, c1, t0, t1, by show 0 <= t.si + n; omega, by show t.si + n <= t.tot; omega, fun _ _ => by show t.si + n < t.tot; omega, win, fa, fun h => absurd (he.1.symm.trans h) (by decide)⟩
 . exact ⟨c0, c1, t0, t1, s0, s1, run, win, fa, idle⟩
def eS (o : Int) : Int := if o % 4 ≠ 0 then 11 else if o <= 16 then 0 else 10
def kQ (o : Int) : Int := if o = 16 then 12 else eS o
def Wd.val (t : Wd) (o : Int) : Int := if o = 0 then tk t.en + 2 * tk t.lk else if o = 4 then t.cl else if o = 8 then t.tot else if o = 16 then t.si else 0
def Wd.ctlTo (t : Wd) (v : Int) : Wd := if t.en = false /\ v % 2 = 1 /\ t.cl < t.tot then { t with en := true, si := 0, ar := false } else if t.en = true /\ v % 2 = 0 then { t with en := false, si := 0, ar := false } else t
def Wd.ctlPut (t : Wd) (v : Int) : Wd := if t.lk = true then t else { t.ctlTo v with lk := (v / 2 % 2 == 1) }
def Wd.key (t : Wd) (v : Int) : Wd :=
 if t.en = false then t else if v = 23130 then { t with ar := true } else if v = 42405 /\ t.ar = true then (if t.si < t.cl then { t with fa := 4 } else { t with si := 0, ar := false }) else if t.si < t.cl then { t with fa := 8 } else { t with ar := false }
def Wd.sto (t : Wd) (o v : Int) : Wd :=
 if t.fa ≠ 0 then t else if o = 0 then t.ctlPut v else if o = 4 then (if t.lk = true \/ t.en = true then t else { t with cl := v }) else if o = 8 then (if t.lk = true \/ t.en = true then t else { t with tot := v }) else if o = 12 then t.key v else t
theorem Wd.sto_ok {t : Wd} (h : t.ok) {o v : Int} (v0 : 0 <= v) (v1 : v < 4294967296) : (t.sto o v).ok := by
 unfold Wd.sto
 split
 . exact h
 rename_i hf
 have hf0 : t.fa = 0 := by simpa using hf
 obtain ⟨c0, c1, t0, t1, s0, s1, run, win, fa, idle⟩ := h
 have same : t.ok := ⟨c0, c1, t0, t1, s0, s1, run, win, fa, idle⟩
 split
 . unfold Wd.ctlPut
   split
   . exact same
   . have hc : (t.ctlTo v).ok := by
      unfold Wd.ctlTo
      split
      . rename_i hx
        exact ⟨c0, c1, t0, t1, Int.le_refl _, t0, fun _ _ => by show 0 < t.tot; omega, fun _ => hx.2.2, .inl hf0, fun h => absurd h (by simp)⟩
      . split
        . exact ⟨c0, c1, t0, t1, Int.le_refl _, t0, fun h => absurd h (by simp), fun h => absurd h (by simp), .inl hf0, fun _ => ⟨hf0, rfl, rfl⟩⟩
        . exact same
     obtain ⟨c0, c1, t0, t1, s0, s1, run, win, fa, idle⟩ := hc
     exact ⟨c0, c1, t0, t1, s0, s1, run, win, fa, idle⟩
 split
 . split
   . exact same
   . rename_i hx
     have he : t.en = false := by cases h : t.en <;> simp_all
     obtain ⟨_, hsi, har⟩ := idle he
     exact ⟨v0, v1, t0, t1, s0, s1, run, fun h => absurd (h.symm.trans he) (by decide), fa, idle⟩
 split
 . split
   . exact same
   . rename_i hx
     have he : t.en = false := by cases h : t.en <;> simp_all
     obtain ⟨_, hsi, har⟩ := idle he
     exact ⟨c0, c1, v0, v1, s0, by show t.si <= v; omega, fun h => absurd (h.symm.trans he) (by decide), fun h => absurd (h.symm.trans he) (by decide), fa, idle⟩
 split
 . unfold Wd.key
   split
   . exact same
   rename_i hen
   have he : t.en = true := by cases h : t.en <;> simp_all
   have nid : t.en = false -> False := fun h => absurd (he.symm.trans h) (by decide)
   have hw := win he
   split
   . exact ⟨c0, c1, t0, t1, s0, s1, run, win, fa, fun h => (nid h).elim⟩
   split
   . split
     . exact ⟨c0, c1, t0, t1, s0, s1, fun _ h => absurd h (show ¬ (4 : Int) = 0 by decide), win, .inr (.inr (.inl rfl)), fun h => (nid h).elim⟩
     . exact ⟨c0, c1, t0, t1, Int.le_refl _, t0, fun _ _ => by show 0 < t.tot; omega, win, fa, fun h => (nid h).elim⟩
   split
   . exact ⟨c0, c1, t0, t1, s0, s1, fun _ h => absurd h (show ¬ (8 : Int) = 0 by decide), win, .inr (.inr (.inr rfl)), fun h => (nid h).elim⟩
   . exact ⟨c0, c1, t0, t1, s0, s1, run, win, fa, fun h => (nid h).elim⟩
 . exact same
structure Rs where
 ca : Int
 ct : Int
 la : Int
 qs : Bool
def pY (c : Int) : Prop := c = 2 \/ c = 4 \/ c = 8 \/ c = 16
instance (c : Int) : Decidable (pY c) := by unfold pY; infer_instance
structure Rs.ok (t : Rs) : Prop where
 a0 : 0 <= t.ca
 a1 : t.ca < 4294967296
 c0 : 0 <= t.ct
 c1 : t.ct < 4294967296
 l0 : 1 <= t.la
 l1 : t.la < 17
def rs0 : Rs := ⟨0, 0, 0, false⟩
def rsN : Rs := ⟨1, 0, 1, false⟩
theorem aMv : rsN.ok := ⟨by decide, by decide, by decide, by decide, by decide, by decide⟩
def vK (n : Int) : Int := if n < 4294967295 then n + 1 else n
theorem aDF (n : Int) (n0 : 0 <= n) (n1 : n < 4294967296) : 0 <= vK n /\ vK n < 4294967296 := by unfold vK; split <;> omega
def Rs.put (t : Rs) (c : Int) : Rs := ⟨bits BinOp.or IntKind.u32 t.ca c, vK t.ct, c, false⟩
def Rs.ltc (t : Rs) (c : Int) : Rs := if pY c then t.put c else t
theorem uD {c : Int} (h : pY c) : 1 <= c /\ c < 17 := by unfold pY at h; omega
theorem Rs.put_ok {t : Rs} (h : t.ok) {c : Int} (hc : pY c) : (t.put c).ok := by
 obtain ⟨c0, c1⟩ := uD hc
 obtain ⟨o0, o1⟩ := aEn t.ca c h.a0 h.a1 (by omega) (by omega)
 obtain ⟨u0, u1⟩ := aDF t.ct h.c0 h.c1
 exact ⟨o0, o1, u0, u1, c0, c1⟩
theorem Rs.ltc_ok {t : Rs} (h : t.ok) (c : Int) : (t.ltc c).ok := by
 unfold Rs.ltc
 split
 . exact Rs.put_ok h (by assumption)
 . exact h
def dD (o : Int) : Int := if o % 4 ≠ 0 then 11 else if 16 <= o then 10 else 0
def kP (o : Int) : Int := if dD o ≠ 0 then dD o else if o = 4 \/ o = 12 then 12 else 0
theorem lV {o : Int} (o0 : 0 <= o) (h : dD o = 0) : o = 0 \/ o = 4 \/ o = 8 \/ o = 12 := by
 unfold dD at h
 split at h
 . omega
 . split at h <;> omega
def Rs.val (t : Rs) (o : Int) : Int := if o = 0 then t.ca else if o = 4 then t.ct else if o = 12 then t.la else 0
def Rs.clr (t : Rs) (v : Int) : Rs := { t with ca := bits BinOp.andNot IntKind.u32 t.ca v }
def Rs.ask (t : Rs) (v : Int) : Rs := { t with qs := t.qs || (v == 45063) }
def Rs.sto (t : Rs) (o v : Int) : Rs := if o = 0 then t.clr v else if o = 8 then t.ask v else t
theorem Rs.clr_ok {t : Rs} (h : t.ok) {v : Int} (v0 : 0 <= v) (v1 : v < 4294967296) : (t.clr v).ok := by
 obtain ⟨b0, b1⟩ := jC t.ca v h.a0 h.a1 v0 v1
 exact ⟨b0, b1, h.c0, h.c1, h.l0, h.l1⟩
theorem Rs.ask_ok {t : Rs} (h : t.ok) (v : Int) : (t.ask v).ok := ⟨h.a0, h.a1, h.c0, h.c1, h.l0, h.l1⟩
theorem Rs.sto_ok {t : Rs} (h : t.ok) {o v : Int} (v0 : 0 <= v) (v1 : v < 4294967296) : (t.sto o v).ok := by
 unfold Rs.sto
 split
 . exact Rs.clr_ok h v0 v1
 . split
   . exact Rs.ask_ok h v
   . exact h
theorem aIN (k i : Nat) : aO ((2 ^ k : Nat) : Int) i = decide (i = k) := by
 rw [bG _ _ (Int.natCast_nonneg _), Int.toNat_natCast, Nat.testBit_two_pow]
 by_cases h : i = k
 . simp [h]
 . rw [decide_eq_false (fun e : k = i => h e.symm), decide_eq_false h]
theorem aCM (a : Int) (k i : Nat) (a0 : 0 <= a) (a1 : a < 4294967296) (hk : k < 32) : aO (bits BinOp.or IntKind.u32 a ((2 ^ k : Nat) : Int)) i = if i = k then true else aO a i := by
 have hp : 2 ^ k <= 2 ^ 31 := Nat.pow_le_pow_right (by decide) (by omega)
 rw [aK9 a _ i a0 a1 (Int.natCast_nonneg _) (by generalize 2 ^ k = x at *; omega), aIN]
 by_cases h : i = k
 . simp [h]
 . simp [h]
end Go.Proofs.YtaohacadochldaaGreat.B
