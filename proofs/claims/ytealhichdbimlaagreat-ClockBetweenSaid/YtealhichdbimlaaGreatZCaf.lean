/- A part of the proof of a law of layer 12: af. -/
import Derived.Test.YtealhichdbimlaaGreatZCae
set_option linter.unusedVariables false
set_option linter.unusedSimpArgs false
set_option maxHeartbeats 12800000
set_option maxRecDepth 100000
namespace Go.Proofs.YtealhichdbimlaaGreat.B
open Go.Proofs.Tryz
open Go.ChangeShapes Go.WideShapes Go.RowKit Go.Sort
abbrev tBk : TypeId := 259
abbrev tRm : TypeId := 302
def kA (k : Nat) : Value := .pointer (some ⟨k, 0, none⟩)
def rm (n : Nat) (q : Nat -> Nat) : List Value := (List.range 8).map fun i => if i < n then kA (q i) else .pointer none
theorem aAL (n : Nat) (q : Nat -> Nat) : (rm n q).length = 8 := by simp [rm]
theorem aHP (n : Nat) (q : Nat -> Nat) (i : Nat) (h : i < n) (h8 : n <= 8) : (rm n q)[i]? = some (kA (q i)) := by simp [rm, show i < 8 by omega, h]
theorem aMz (n : Nat) (q : Nat -> Nat) (r : Nat) (h : n < 8) : (rm n q).set n (kA r) = rm (n + 1) (fun i => if i = n then r else q i) := by
 apply List.ext_getElem?
 intro i
 rw [List.getElem?_set]
 by_cases e : n = i
 . subst e
   rw [if_pos rfl, if_pos (by rw [aAL]; exact h), aHP _ _ _ (by omega) (by omega)]
   simp
 . rw [if_neg e]
   by_cases h8 : i < 8
   . unfold rm
     simp only [List.getElem?_map, List.getElem?_range h8, Option.map_some]
     by_cases hi : i < n
     . rw [if_pos hi, if_pos (by omega), if_neg (fun x => e x.symm)]
     . rw [if_neg hi, if_neg (by omega)]
   . rw [List.getElem?_eq_none (by rw [aAL]; omega), List.getElem?_eq_none (by rw [aAL]; omega)]
structure gS (w : World) (g n : Nat) (q : Nat -> Nat) (t : Nat -> Tm) : Prop where
 room : w.heap[g]? = some (.cells (rm n q).toArray tRm (0, 0))
 tms : ∀ i, i < n -> jK w (q i) tC (t i)
 ok : ∀ i, i < n -> (t i).ok
 one : ∀ i j, i < n -> j < n -> q i = q j -> i = j
 n8 : n <= 8
structure cI (w : World) (p g n : Nat) (q : Nat -> Nat) (t : Nat -> Tm) : Prop where
 cell : w.heap[p]? = some (.cells #[.slice (some ⟨g, 0, none⟩) n n] tBk (0, 0))
 rm : gS w g n q t
def own (n : Nat) (q : Nat -> Nat) (k : Nat) : Prop := ∃ i, i < n /\ k = q i
section
variable {w w' : World} {p g n : Nat} {q : Nat -> Nat} {t s : Nat -> Tm}
theorem gS.lt (h : gS w g n q t) : g < w.heap.size := lt_of_block h.room
theorem gS.ltq (h : gS w g n q t) {i : Nat} (hi : i < n) : q i < w.heap.size := (h.tms i hi).lt
theorem gS.gne (h : gS w g n q t) {i : Nat} (hi : i < n) : q i ≠ g := aK (h.tms i hi) h.room rfl
theorem gS.below (h : gS w g n q t) (hb : Below w.heap.size w w') : gS w' g n q t :=
 ⟨aC hb h.room h.lt, fun i hi => (h.tms i hi).below hb, h.ok, h.one, h.n8⟩
theorem gS.off {S : Nat -> Prop} (h : gS w g n q t) (ho : aF S w w') (hg : ¬ S g) (hq : ∀ i, i < n -> ¬ S (q i)) : gS w' g n q t :=
 ⟨ho.at h.room hg, fun i hi => (h.tms i hi).off ho (hq i hi), h.ok, h.one, h.n8⟩
theorem gS.congr (h : gS w g n q t) (hs : ∀ i, i < n -> t i = s i) : gS w g n q s :=
 ⟨h.room, fun i hi => by rw [<- hs i hi]; exact h.tms i hi, fun i hi => by rw [<- hs i hi]; exact h.ok i hi, h.one, h.n8⟩
theorem gS.turn (h : gS w g n q t) {i : Nat} {x : Tm} (hi : i < n) (a : jK w' (q i) tC x) (ox : x.ok) (ho : aF (· = q i) w w') : gS w' g n q (oF t i x) :=
 ⟨ho.at h.room (fun e => h.gne hi e.symm), fun k hk => by
  by_cases e : k = i
  . subst e; rw [nZ]; exact a
  . rw [oA _ _ e]; exact (h.tms k hk).off ho (fun e2 => e (h.one k i hk hi e2)), fun k hk => by
  by_cases e : k = i
  . subst e; rw [nZ]; exact ox
  . rw [oA _ _ e]; exact h.ok k hk, h.one, h.n8⟩
theorem gS.cell (h : gS w g n q t) {i : Nat} (hi : i < n) : w.cell? ⟨g, i, none⟩ = some (.pointer (some ⟨q i, 0, none⟩)) := by
 rw [aA h.room i]
 simpa [kA] using aHP n q i hi h.n8
theorem cI.ltp (h : cI w p g n q t) : p < w.heap.size := lt_of_block h.cell
theorem cI.c0 (h : cI w p g n q t) : w.cell? ⟨p, 0, none⟩ = some (.slice (some ⟨g, 0, none⟩) n n) := by rw [aA h.cell 0]; rfl
theorem cI.pne (h : cI w p g n q t) {i : Nat} (hi : i < n) : q i ≠ p := aK (h.rm.tms i hi) h.cell rfl
theorem cI.below (h : cI w p g n q t) (hb : Below w.heap.size w w') : cI w' p g n q t := ⟨aC hb h.cell h.ltp, h.rm.below hb⟩
theorem cI.off {S : Nat -> Prop} (h : cI w p g n q t) (ho : aF S w w') (hp : ¬ S p) (hg : ¬ S g) (hq : ∀ i, i < n -> ¬ S (q i)) : cI w' p g n q t := ⟨ho.at h.cell hp, h.rm.off ho hg hq⟩
theorem cI.congr (h : cI w p g n q t) (hs : ∀ i, i < n -> t i = s i) : cI w p g n q s := ⟨h.cell, h.rm.congr hs⟩
theorem cI.turn (h : cI w p g n q t) {i : Nat} {x : Tm} (hi : i < n) (a : jK w' (q i) tC x) (ox : x.ok) (ho : aF (· = q i) w w') : cI w' p g n q (oF t i x) :=
 ⟨ho.at h.cell (fun e => h.pne hi e.symm), h.rm.turn hi a ox ho⟩
theorem cI.get (h : cI w p g n q t) {i : Nat} (hi : i < n) : w.cell? ⟨g, i, none⟩ = some (.pointer (some ⟨q i, 0, none⟩)) := h.rm.cell hi
theorem cI.free (h : cI w p g n q t) (j : Nat) : w.frozen? ⟨g, j, none⟩ = false := aN h.rm.room j
end
theorem aF.own {n : Nat} {q : Nat -> Nat} {i : Nat} (hi : i < n) {w w' : World} (h : aF (· = q i) w w') : aF (own n q) w w' := h.mono fun k _ e => ⟨i, hi, e⟩
theorem aQJ : Obj.cells #[.int .u32 0, .int .u32 0, .int .u32 0, .int .u32 0, .int .u64 0] 290 (0, 0) = .cells (wl tz).toArray 290 (0, 0) := rfl
theorem aOa (t : Tm) (n : Int) (p : Nat) (w : World) (h : t.ok) (a : jK w p tC t) (n0 : 0 <= n) (n1 : n < 18446744073709551616) :
 Calls prog 281 #[.pointer (some ⟨p, 0, none⟩), .int .u64 n] w fun e w' => e = .returned (.tuple #[]) /\ jK w' p tC (t.tick n) /\ aF (· = p) w w' := by
 obtain ⟨R, hR⟩ : ∃ R, t.tick n = R := ⟨_, rfl⟩
 rw [hR]
 have HR := Hd hR
 clear hR
 go_enter func281, ntmps281
 go_wp2_with fail
 go_loopw [1] (fun x wr => ∃ (m : Int) (s : Tm), x = .int .u64 m /\ 0 <= m /\ m < 18446744073709551616 /\ s.ok /\ jK wr p tC s /\ aF (· = p) w wr /\ Hid (s.tick m = R)) (fun x wr => (intOf x).toNat)
 case atStart => exact ⟨n, t, rfl, n0, n1, h, a, aF.refl _ _, HR⟩
 case round =>
  clear a h HR n0 n1
  obtain ⟨m, s, rfl, m0, m1, h, a, ho, HR⟩ := hrel
  have hL := h.left
  have RN := Hd (fun w a => aDp s p w h a)
  cases hen : s.en
  . rw [hen] at RN
    go_wp2_with fail
    refine (RN.out _ a).mono ?_
    rintro e w1 ⟨rfl, hb⟩
    have a1 := a.below hb
    have ho1 := ho.trans (aF.ofBelow hb)
    clear a hb ho
    go_wp2_with fail
    refine (RN.out _ a1).mono ?_
    rintro e w2 ⟨rfl, hb⟩
    have a2 := a1.below hb
    have ho2 := ho1.trans (aF.ofBelow hb)
    clear a1 hb ho1
    go_wp2_with fail
    go_end0
    refine ⟨rfl, ?_, ho2⟩
    rw [<- HR.out, Tm.tick_off hen]; exact a2
  . rw [hen] at RN
    have LF := Hd (fun w => aMN s w h)
    go_wp2_with fail
    refine (RN.out _ a).mono ?_
    rintro e w1 ⟨rfl, hb⟩
    have a1 := a.below hb
    have ho1 := ho.trans (aF.ofBelow hb)
    clear a hb ho
    go_wp2_with (refine aCh (.tmp 11) rfl rfl rfl a1 ?_)
    refine (LF.out _).mono ?_
    rintro e w2 ⟨rfl, hb⟩
    have a := a1.below hb
    have ho := ho1.trans (aF.ofBelow hb)
    clear a1 hb ho1
    by_cases hle : s.left <= m
    . go_wp2_with (refine uF rfl (.tmp 19) rfl rfl a ?_)
      refine (LF.out _).mono ?_
      rintro e w1 ⟨rfl, hb⟩
      have a1 := a.below hb
      have ho1 := ho.trans (aF.ofBelow hb)
      clear a hb ho
      have HE := Hd (show s.exp.tick (m - s.left) = R by rw [<- Tm.tick_ge h hen hle]; exact HR.out)
      clear HR LF RN
      have zq : jK (w1.alloc (.cells (wl tz).toArray 290 (0, 0))) w1.heap.size 290 tz := aD w1 (.cells (wl tz).toArray 290 (0, 0))
      have hpq : p ≠ w1.heap.size := by have := a1.lt; omega
      have aP := (a1.below (aE (aI w1) (.cells (wl tz).toArray 290 (0, 0)))).elseRow w1.heap.size (wl s).toArray hpq
      have aQ := jK.row zq s
      have hq0 : w.heap.size <= w1.heap.size := ho1.size
      have hoP : aF (· = p) w ((w1.alloc (.cells (wl tz).toArray 290 (0, 0))).setRow w1.heap.size (wl s).toArray) :=
       ho1.trans (aF.ofBelow (aB (aE (aI w1) _) _ (Nat.le_refl _)))
      go_upto_region 3 with (first | (refine uF rfl (.tmp 25) rfl rfl a1 ?_) | (refine uW rfl (.tmp 4) (.tmp 26) rfl rfl rfl zq ?_))
      rw [aQJ]
      clear a1 zq ho1
      generalize ((w1.alloc (.cells (wl tz).toArray 290 (0, 0))).setRow w1.heap.size (wl s).toArray) = W2 at *
      generalize w1.heap.size = q at *
      go_wp2_with (refine uF rfl (.tmp 30) rfl rfl aP ?_)
      refine (aP0 s _ h).mono ?_
      rintro e W3 ⟨rfl, hb⟩
      have aP1 := aP.below hb
      have aQ1 := aQ.below hb
      have ho1 := hoP.trans (aF.ofBelow hb)
      clear aP aQ hoP hb
      have aP := jK.row aP1 s.exp
      have aQ := aQ1.elseRow p (wl s.exp).toArray (fun e => hpq e.symm)
      have ho := ho1.trans (sR W3 p (wl s.exp).toArray)
      go_upto_region 4 with (refine uW rfl (.tmp 34) (.tmp 32) rfl rfl rfl aP1 ?_)
      clear aP1 aQ1 ho1
      generalize W3.setRow p (wl s.exp).toArray = W4 at *
      have hE := Tm.exp_ok h
      have hEL := hE.left
      cases hq : eqT s.exp s
      . go_simp
        refine wp_region_quiet_below (by kernel_rfl) (by kernel_rfl) ?_
        repeat (first
         | go_big_quiet_skip
         | (go_big_quiet_want; first
             | (refine aAK (.tmp 37) rfl rfl aP.grown ?_; go_simp; go_big_quiet_on)
             | (refine aAK (.tmp 4) rfl rfl aQ.grown ?_; go_simp; go_big_quiet_on)
             | (refine aOn (.tmp 38) (.tmp 39) _ rfl rfl rfl ?_; go_simp; go_big_quiet_on)
             | (go_big_quiet_op; first | go_big_quiet_on)))
        refine wpQuiet_nil ?_
        intro _ hw'
        obtain ⟨⟨dq, osq⟩, hw''⟩ := hw'
        subst hw''
        have hbr := below_regrown W4 dq osq
        go_wp2_with fail
        go_roundw
        case rel => exact ⟨m - s.left, s.exp, rfl, by omega, by omega, hE, aP.below hbr, ho.trans (aF.ofBelow hbr), HE⟩
        case measure => simp [intOf]; omega
      . have hs := aIZ hen hq
        have hm := fP (a := m - s.left) (u := s.exp.left) (by omega)
        have hm2 : (m - s.left) % s.exp.left <= m - s.left := by
         by_cases c : m - s.left < s.exp.left
         . rw [Int.emod_eq_of_lt (by omega) c]; omega
         . omega
        have HE2 := Hd (show s.exp.tick ((m - s.left) % s.exp.left) = R by rw [<- HE.out]; exact (Tm.tick_mod hE (by rw [hs]; exact hen) (by rw [hs]; exact hs) _ (by omega)).symm)
        have LF := Hd (fun w => aMN s.exp w hE)
        clear hs
        go_simp
        refine wp_region_quiet_below (by kernel_rfl) (by kernel_rfl) ?_
        repeat (first
         | go_big_quiet_skip
         | (go_big_quiet_want; first
             | (refine aAK (.tmp 37) rfl rfl aP.grown ?_; go_simp; go_big_quiet_on)
             | (refine aAK (.tmp 4) rfl rfl aQ.grown ?_; go_simp; go_big_quiet_on)
             | (refine aOn (.tmp 38) (.tmp 39) _ rfl rfl rfl ?_; go_simp; go_big_quiet_on)
             | (go_big_quiet_op; first | go_big_quiet_on)))
        refine wpQuiet_nil ?_
        intro _ hw'
        obtain ⟨⟨dq, osq⟩, hw''⟩ := hw'
        subst hw''
        have hbr := below_regrown W4 dq osq
        have a1 := aP.below hbr
        have ho1 := ho.trans (aF.ofBelow hbr)
        clear aP aQ ho hbr HE
        go_wp2_with (refine uF rfl (.tmp 44) rfl rfl a1 ?_)
        refine (LF.out _).mono ?_
        rintro e W5 ⟨rfl, hb⟩
        have a := a1.below hb
        have ho := ho1.trans (aF.ofBelow hb)
        clear a1 ho1 hb
        go_wp2_with fail
        go_roundw
        case rel => exact ⟨(m - s.left) % s.exp.left, s.exp, rfl, hm.1, by omega, hE, a, ho, HE2⟩
        case measure => simp [intOf]; omega
    . go_wp2_with fail
      refine (RN.out _ a).mono ?_
      rintro e w1 ⟨rfl, hb⟩
      have a1 := a.below hb
      have ho1 := ho.trans (aF.ofBelow hb)
      clear a hb ho
      go_wp2_with (refine uF rfl (.tmp 53) rfl rfl a1 ?_)
      refine (aP2 s m _ h m0 (by omega)).mono ?_
      rintro e w2 ⟨rfl, hb⟩
      have a := a1.below hb
      have ho := ho1.trans (aF.ofBelow hb)
      clear a1 hb ho1
      go_wp2_with (refine uW rfl (.tmp 58) (.tmp 56) rfl rfl rfl a ?_)
      go_end0
      refine ⟨rfl, ?_, ho.trans (sR _ _ _)⟩
      rw [<- HR.out, Tm.tick_lt hen (by omega)]; exact jK.row a _
theorem aBe (t : Nat -> Tm) (f : Tm -> Tm) (k i : Nat) : oF (fun i => if i < k then f (t i) else t i) k (f (t k)) i = if i < k + 1 then f (t i) else t i := by
 by_cases e : i = k
 . subst e; rw [nZ, if_pos (by omega)]
 . rw [oA _ _ e]
   by_cases c : i < k
   . rw [if_pos (show i < k + 1 by omega)]; exact if_pos c
   . rw [if_neg (show ¬ i < k + 1 by omega)]; exact if_neg c
section
variable {p g n : Nat} {q : Nat -> Nat} {t : Nat -> Tm} {w : World}
theorem aEE (h : cI w p g n q t) : Calls prog 199 #[.pointer (some ⟨p, 0, none⟩)] w fun e w' => e = .returned (.slice (some ⟨g, 0, none⟩) n n) /\ w = w' := by
 have c0 := h.c0
 clear h
 go_enter func199, ntmps199
 exact aT
theorem aEF (h : cI w p g n q t) : Calls prog 135 #[.pointer (some ⟨p, 0, none⟩)] w fun e w' => e = .returned (.int .i64 n) /\ w = w' := by
 go_enter func135, ntmps135
 go_wp2_with fail
 refine (aEE h).mono ?_
 rintro e w1 ⟨rfl, rfl⟩
 exact aT
theorem aNs (h : cI w p g n q t) (N : Int) (n0 : 0 <= N) (n1 : N < 18446744073709551616) :
 Calls prog 277 #[.pointer (some ⟨p, 0, none⟩), .int .u64 N] w fun e w' => e = .returned (.tuple #[]) /\ cI w' p g n q (fun i => (t i).tick N) /\ aF (own n q) w w' := by
 have n8 := h.rm.n8
 go_enter func277, ntmps277
 go_wp2_with fail
 refine (aEE h).mono ?_
 rintro e w1 ⟨rfl, rfl⟩
 go_wp2_with fail
 go_loopw [9] (fun i wr => ∃ k : Nat, k <= n /\ i = .int .i64 k /\ cI wr p g n q (fun i => if i < k then (t i).tick N else t i) /\ aF (own n q) w wr) (fun i wr => n - (intOf i).toNat)
 case atStart => exact ⟨0, by omega, rfl, h.congr (fun i _ => by simp), aF.refl _ _⟩
 case round =>
  obtain ⟨k, hk, rfl, H, ho⟩ := hrel
  by_cases hlt : k < n
  . have hc := H.get hlt
    have ht := H.rm.tms k hlt
    have ok := H.rm.ok k hlt
    simp only [Nat.lt_irrefl, if_false] at ht ok
    have HH := Hd H
    have HO := Hd ho
    clear H ho h
    go_wp2_with fail
    refine (aOa (t k) N (q k) wr ok ht n0 n1).mono ?_
    rintro e w2 ⟨rfl, a2, ho2⟩
    have H2 := (HH.out.turn hlt a2 (Tm.tick_ok ok n0) ho2).congr (s := fun i => if i < k + 1 then (t i).tick N else t i) (fun i _ => aBe t (fun x => x.tick N) k i)
    have HO2 := HO.out.trans (ho2.own hlt)
    clear HH HO ho2 a2 ht ok hc
    go_wp2_with fail
    go_roundw
    case rel => exact ⟨k + 1, by omega, by go_num, H2, HO2⟩
    case measure => simp [intOf]; omega
  . obtain rfl : k = n := by omega
    go_wp2_with fail
    go_end0
    exact ⟨rfl, H.congr (fun i hi => if_pos hi), ho⟩
theorem aK0 (h : cI w p g n q t) :
 Calls prog 275 #[.pointer (some ⟨p, 0, none⟩)] w fun e w' => e = .returned (.tuple #[]) /\ cI w' p g n q (fun i => tz) /\ aF (own n q) w w' := by
 have n8 := h.rm.n8
 go_enter func275, ntmps275
 go_wp2_with fail
 refine (aEE h).mono ?_
 rintro e w1 ⟨rfl, rfl⟩
 go_wp2_with fail
 go_loopw [7] (fun i wr => ∃ k : Nat, k <= n /\ i = .int .i64 k /\ cI wr p g n q (fun i => if i < k then tz else t i) /\ aF (own n q) w wr) (fun i wr => n - (intOf i).toNat)
 case atStart => exact ⟨0, by omega, rfl, h.congr (fun i _ => by simp), aF.refl _ _⟩
 case round =>
  obtain ⟨k, hk, rfl, H, ho⟩ := hrel
  by_cases hlt : k < n
  . have hc := H.get hlt
    have ht := H.rm.tms k hlt
    simp only [Nat.lt_irrefl, if_false] at ht
    have HH := Hd H
    have HO := Hd ho
    clear H ho h
    go_wp2_with fail
    refine (aMP (t k) (q k) wr ht).mono ?_
    rintro e w2 ⟨rfl, rfl⟩
    have ho2 := sR wr (q k) (wl tz).toArray
    have H2 := (HH.out.turn hlt (jK.row ht tz) aD6 ho2).congr (s := fun i => if i < k + 1 then tz else t i) (fun i _ => aBe t (fun _ => tz) k i)
    have HO2 := HO.out.trans (ho2.own hlt)
    clear HH HO ho2 ht hc
    generalize wr.setRow (q k) (wl tz).toArray = W2 at *
    go_wp2_with fail
    go_roundw
    case rel => exact ⟨k + 1, by omega, by go_num, H2, HO2⟩
    case measure => simp [intOf]; omega
  . obtain rfl : k = n := by omega
    go_wp2_with fail
    go_end0
    exact ⟨rfl, H.congr (fun i hi => if_pos hi), ho⟩
theorem aFJ (h : cI w p g n q t) :
 Calls prog 165 #[.pointer (some ⟨p, 0, none⟩), .func (.func 166) #[] #[]] w fun e w' => e = .returned (.int .u32 (ob (fun i => (t i).st && (t i).iq) n)) /\ Below w.heap.size w w' := by
 have n8 := h.rm.n8
 go_enter func165, ntmps165
 go_wp2_with fail
 refine (aEE h).mono ?_
 rintro e w1 ⟨rfl, rfl⟩
 go_wp2_with fail
 go_loopw [5, 11] (fun a i wr => ∃ (k : Nat) (X : Int), k <= n /\ i = .int .i64 k /\ a = .int .u32 X /\ 0 <= X /\ X < 4294967296 /\ Hid (X = ob (fun i => (t i).st && (t i).iq) k) /\ cI wr p g n q t /\ Below w.heap.size w wr) (fun a i wr => n - (intOf i).toNat)
 case atStart => exact ⟨0, 0, by omega, rfl, rfl, by omega, by omega, Hd rfl, h, aI w⟩
 case round =>
  clear h
  obtain ⟨k, X, hk, rfl, rfl, X0, X1, hX, H, hB⟩ := hrel
  by_cases hlt : k < n
  . have hc := H.get hlt
    have ht := H.rm.tms k hlt
    have ok := H.rm.ok k hlt
    have HH := Hd H
    have ho := aKY (fun i => (t i).st && (t i).iq) k (by omega)
    have hbd := gP (fun i => (t i).st && (t i).iq) (k + 1) (by omega)
    have hun := lJ k
    rw [<- hX.out] at ho
    have hy := uK (fun i => (t i).st && (t i).iq) k (by omega)
    have hno := yG (fun i => (t i).st && (t i).iq) k
    obtain ⟨f, hf⟩ : ∃ f, ((t k).st && (t k).iq) = f := ⟨_, rfl⟩
    have C := aKV (t k) (q k) wr ok ht
    rw [hf] at C
    rw [hf] at hy hno
    have HY := Hd hy
    have HN := Hd hno
    have HB := Hd hbd
    clear H hf hy hno hbd
    cases f
    . go_wp2_with fail
      refine C.mono ?_
      rintro e w2 ⟨rfl, hb⟩
      have H2 := HH.out.below hb
      have hB2 := tr hB hb
      clear HH hc ht hb ho hun C
      go_wp2_with fail
      go_roundw
      case rel => exact ⟨k + 1, X, by omega, by go_num, rfl, X0, X1, Hd (by rw [HN.out (by simp)]; exact hX.out), H2, hB2⟩
      case measure => simp [intOf]; omega
    . have HO := Hd ho
      clear ho
      go_wp2_with fail
      refine C.mono ?_
      rintro e w2 ⟨rfl, hb⟩
      have H2 := HH.out.below hb
      have hB2 := tr hB hb
      clear HH hc ht hb C
      go_wp2_with fail
      go_roundw
      case rel => exact ⟨k + 1, ob (fun i => (t i).st && (t i).iq) (k + 1), by omega, by go_num, by rw [HY.out (by simp), <- hX.out, <- HO.out]; rfl, HB.out.1, HB.out.2, Hd rfl, H2, hB2⟩
      case measure => simp [intOf]; omega
  . obtain rfl : k = n := by omega
    go_wp2_with fail
    go_ret
    exact ⟨bH hX.out, hB⟩
theorem aFL (h : cI w p g n q t) :
 Calls prog 95 #[.pointer (some ⟨p, 0, none⟩)] w fun e w' => e = .returned (.int .u32 (ob (fun i => (t i).st && (t i).iq) n)) /\ Below w.heap.size w w' := by
 go_enter func95, ntmps95
 go_wp2_with fail
 refine (aFJ h).mono ?_
 rintro e w1 ⟨rfl, hb⟩
 exact bR
theorem aFK (h : cI w p g n q t) :
 Calls prog 165 #[.pointer (some ⟨p, 0, none⟩), .func (.func 201) #[] #[]] w fun e w' => e = .returned (.int .u32 (ob (fun i => (t i).en) n)) /\ Below w.heap.size w w' := by
 have n8 := h.rm.n8
 go_enter func165, ntmps165
 go_wp2_with fail
 refine (aEE h).mono ?_
 rintro e w1 ⟨rfl, rfl⟩
 go_wp2_with fail
 go_loopw [5, 11] (fun a i wr => ∃ (k : Nat) (X : Int), k <= n /\ i = .int .i64 k /\ a = .int .u32 X /\ 0 <= X /\ X < 4294967296 /\ Hid (X = ob (fun i => (t i).en) k) /\ cI wr p g n q t /\ Below w.heap.size w wr) (fun a i wr => n - (intOf i).toNat)
 case atStart => exact ⟨0, 0, by omega, rfl, rfl, by omega, by omega, Hd rfl, h, aI w⟩
 case round =>
  clear h
  obtain ⟨k, X, hk, rfl, rfl, X0, X1, hX, H, hB⟩ := hrel
  by_cases hlt : k < n
  . have hc := H.get hlt
    have ht := H.rm.tms k hlt
    have ok := H.rm.ok k hlt
    have HH := Hd H
    have ho := aKY (fun i => (t i).en) k (by omega)
    have hbd := gP (fun i => (t i).en) (k + 1) (by omega)
    have hun := lJ k
    rw [<- hX.out] at ho
    have hy := uK (fun i => (t i).en) k (by omega)
    have hno := yG (fun i => (t i).en) k
    obtain ⟨f, hf⟩ : ∃ f, ((t k).en) = f := ⟨_, rfl⟩
    have C := aDp (t k) (q k) wr ok ht
    rw [hf] at C
    rw [hf] at hy hno
    have HY := Hd hy
    have HN := Hd hno
    have HB := Hd hbd
    clear H hf hy hno hbd
    cases f
    . go_wp2_with fail
      refine C.mono ?_
      rintro e w2 ⟨rfl, hb⟩
      have H2 := HH.out.below hb
      have hB2 := tr hB hb
      clear HH hc ht hb ho hun C
      go_wp2_with fail
      go_roundw
      case rel => exact ⟨k + 1, X, by omega, by go_num, rfl, X0, X1, Hd (by rw [HN.out (by simp)]; exact hX.out), H2, hB2⟩
      case measure => simp [intOf]; omega
    . have HO := Hd ho
      clear ho
      go_wp2_with fail
      refine C.mono ?_
      rintro e w2 ⟨rfl, hb⟩
      have H2 := HH.out.below hb
      have hB2 := tr hB hb
      clear HH hc ht hb C
      go_wp2_with fail
      go_roundw
      case rel => exact ⟨k + 1, ob (fun i => (t i).en) (k + 1), by omega, by go_num, by rw [HY.out (by simp), <- hX.out, <- HO.out]; rfl, HB.out.1, HB.out.2, Hd rfl, H2, hB2⟩
      case measure => simp [intOf]; omega
  . obtain rfl : k = n := by omega
    go_wp2_with fail
    go_ret
    exact ⟨bH hX.out, hB⟩
theorem aNr (h : cI w p g n q t) :
 Calls prog 139 #[.pointer (some ⟨p, 0, none⟩)] w fun e w' => e = .returned (.int .u32 (ob (fun i => (t i).en) n)) /\ Below w.heap.size w w' := by
 go_enter func139, ntmps139
 go_wp2_with fail
 refine (aFK h).mono ?_
 rintro e w1 ⟨rfl, hb⟩
 exact bR
end
section
variable {p g n : Nat} {q : Nat -> Nat} {t : Nat -> Tm} {w : World}
theorem aFN (h : cI w p g n q t) (i : Nat) (hi : i < n) : Calls prog 140 #[.pointer (some ⟨p, 0, none⟩), .int .i64 i] w fun e w' => e = .returned (.pointer (some ⟨w.heap.size, 0, none⟩)) /\ w' = w.alloc (.cells (wl (t i)).toArray tC (0, 0)) := by
 have n8 := h.rm.n8
 have c0 := h.c0
 have hc := h.get hi
 have ht := h.rm.tms i hi
 have H := Hd h
 clear h
 go_enter func140, ntmps140
 go_wp2_with fail
 refine (aEF H.out).mono ?_
 rintro e w1 ⟨rfl, rfl⟩
 go_wp2_with fail
 refine (aOY (t i) (q i) _ ht).mono ?_
 rintro e w1 ⟨rfl, rfl⟩
 exact aT
theorem aAg (h : cI w p g n q t) (i : Int) (hi : i < 0 \/ (n : Int) <= i) : Calls prog 140 #[.pointer (some ⟨p, 0, none⟩), .int .i64 i] w fun e w' => e = .returned (.pointer none) /\ w = w' := by
 have n8 := h.rm.n8
 by_cases h0 : i < 0
 . go_enter func140, ntmps140
   exact aT
 . have h1 : (n : Int) <= i := by omega
   clear hi
   go_enter func140, ntmps140
   go_wp2_with fail
   refine (aEF h).mono ?_
   rintro e w1 ⟨rfl, rfl⟩
   exact aT
theorem qM {P : Prop} (h : P := by
 simp [results, results278, go_sem]
 ) : P := h
theorem aDL (h : cI w p g n q t) (o E : Int) (o0 : 0 <= o) (o1 : o < 4294967296) (hE : jR n o = E) (hne : E ≠ 0) :
 Calls prog 278 #[.pointer (some ⟨p, 0, none⟩), .int .u32 o] w fun e w' => e = .returned (.tuple #[.pointer none, .int .u32 0, .int .i64 E]) /\ w = w' := by
 have n8 := h.rm.n8
 have H := Hd h
 clear h
 unfold jR at hE
 cases h4 : (o % 4 != 0)
 . rw [h4, if_neg (by simp)] at hE
   by_cases hn : (n : Int) <= o / 32
   . rw [if_pos hn] at hE
     subst hE
     clear hne
     go_enter func278, ntmps278
     go_wp2_with fail
     refine (aEF H.out).mono ?_
     rintro e w1 ⟨rfl, rfl⟩
     go_wp2_with fail
     refine bodyPost_ret (v := .tuple #[.pointer none, .int .u32 0, .int .i64 10]) ?_ rfl ⟨rfl, rfl⟩
     exact qM
   . rw [if_neg hn] at hE
     exact absurd hE.symm hne
 . rw [h4, if_pos rfl] at hE
   subst hE
   clear hne
   go_enter func278, ntmps278
   go_wp2_with fail
   refine bodyPost_ret (v := .tuple #[.pointer none, .int .u32 0, .int .i64 11]) ?_ rfl ⟨rfl, rfl⟩
   exact qM
theorem lE {n : Nat} {o : Int} (o0 : 0 <= o) (h : jR n o = 0) : (o % 4 != 0) = false /\ o / 32 < n /\ (o / 32).toNat < n := by
 unfold jR at h
 cases h4 : (o % 4 != 0)
 . rw [h4, if_neg (by simp)] at h
   by_cases hn : (n : Int) <= o / 32
   . rw [if_pos hn] at h; omega
   . exact ⟨rfl, by omega, by omega⟩
 . rw [h4, if_pos rfl] at h; omega
theorem aJ3 (h : cI w p g n q t) (o : Int) (o0 : 0 <= o) (o1 : o < 4294967296) (hE : jR n o = 0) :
 Calls prog 278 #[.pointer (some ⟨p, 0, none⟩), .int .u32 o] w fun e w' => e = .returned (.tuple #[.pointer (some ⟨q (o / 32).toNat, 0, none⟩), .int .u32 (o % 32), .int .i64 0]) /\ w = w' := by
 obtain ⟨h4, hn, hk⟩ := lE o0 hE
 have n8 := h.rm.n8
 have c0 := h.c0
 have hc := h.get hk
 have H := Hd h
 clear h hE
 go_enter func278, ntmps278
 go_wp2_with fail
 refine (aEF H.out).mono ?_
 rintro e w1 ⟨rfl, rfl⟩
 go_wp2_with fail
 refine bodyPost_ret (v := .tuple #[.pointer (some ⟨q (o / 32).toNat, 0, none⟩), .int .u32 (o % 32), .int .i64 0]) ?_ rfl ⟨rfl, rfl⟩
 exact qM
end
def jM (n : Nat) (o : Int) : Int := if jR n o = 0 then fL (o % 32) else jR n o
def zP (n : Nat) (t : Nat -> Tm) (o : Int) : Int := if jR n o = 0 then (t (o / 32).toNat).val (o % 32) else 0
def mA (n : Nat) (o : Int) : Int := if jR n o = 0 then fR (o % 32) else jR n o
def kL (n : Nat) (t : Nat -> Tm) (o x : Int) : Nat -> Tm := if mA n o = 0 then oF t (o / 32).toNat ((t (o / 32).toNat).sto (o % 32) x) else t
section
variable {p g n : Nat} {q : Nat -> Nat} {t : Nat -> Tm} {w : World}
theorem aNp (h : cI w p g n q t) (o : Int) (o0 : 0 <= o) (o1 : o < 4294967296) :
 Calls prog 274 #[.pointer (some ⟨p, 0, none⟩), .int .u32 o] w fun e w' => e = .returned (.tuple #[.int .u32 (zP n t o), .int .i64 (jM n o)]) /\ w = w' := by
 unfold zP jM
 by_cases hE : jR n o = 0
 . rw [if_pos hE, if_pos hE]
   obtain ⟨_, _, hk⟩ := lE o0 hE
   have C := aKW (t (o / 32).toNat) (o % 32) (q (o / 32).toNat) w (h.rm.ok _ hk) (h.rm.tms _ hk) (by omega) (by omega)
   have F := aJ3 h o o0 o1 hE
   generalize (t (o / 32).toNat).val (o % 32) = V at *
   generalize fL (o % 32) = E at *
   generalize q (o / 32).toNat = r at *
   generalize o % 32 = s at *
   clear h hE hk
   go_enter func274, ntmps274
   go_wp2_with fail
   refine F.mono ?_
   rintro e w1 ⟨rfl, rfl⟩
   go_wp2_with fail
   refine C.mono ?_
   rintro e w1 ⟨rfl, rfl⟩
   exact nH
 . rw [if_neg hE, if_neg hE]
   have F := aDL h o _ o0 o1 rfl hE
   have hn : (jR n o == 0) = false := by simpa using hE
   have hn2 : (jR n o != 0) = true := by simpa using hE
   generalize jR n o = E at *
   clear h hE
   go_enter func274, ntmps274
   go_wp2_with fail
   refine F.mono ?_
   rintro e w1 ⟨rfl, rfl⟩
   exact nH
theorem aK1 (h : cI w p g n q t) (o x : Int) (o0 : 0 <= o) (o1 : o < 4294967296) (x0 : 0 <= x) (x1 : x < 4294967296) :
 Calls prog 276 #[.pointer (some ⟨p, 0, none⟩), .int .u32 o, .int .u32 x] w fun e w' => e = .returned (.int .i64 (mA n o)) /\ cI w' p g n q (kL n t o x) /\ aF (own n q) w w' := by
 unfold kL mA
 by_cases hE : jR n o = 0
 . rw [if_pos hE]
   obtain ⟨_, _, hk⟩ := lE o0 hE
   have hok := h.rm.ok _ hk
   have C := aMQ (t (o / 32).toNat) (o % 32) x (q (o / 32).toNat) w hok (h.rm.tms _ hk) (by omega) (by omega) x0 x1
   have F := aJ3 h o o0 o1 hE
   have hso : (if fR (o % 32) = 0 then (t (o / 32).toNat).sto (o % 32) x else t (o / 32).toNat).ok := by
    split
    . exact Tm.sto_ok hok _ _ x0 x1
    . exact hok
   have hcg : ∀ i, i < n -> oF t (o / 32).toNat (if fR (o % 32) = 0 then (t (o / 32).toNat).sto (o % 32) x else t (o / 32).toNat) i = (if fR (o % 32) = 0 then oF t (o / 32).toNat ((t (o / 32).toNat).sto (o % 32) x) else t) i := by
    intro i _
    by_cases hs : fR (o % 32) = 0
    . rw [if_pos hs, if_pos hs]
    . rw [if_neg hs, if_neg hs]
      by_cases e : i = (o / 32).toNat
      . subst e; exact nZ _ _ _
      . exact oA _ _ e
   have H := Hd h
   have HC := Hd hcg
   have HS := Hd hso
   clear hcg hso hok h hE
   have HT := fun (w' : World) (S : Tm) (ho : aF (· = q (o / 32).toNat) w w') (a : jK w' (q (o / 32).toNat) tC S) (os : S.ok) => (H.out.turn hk a os ho)
   have HO := fun (w' : World) (ho : aF (· = q (o / 32).toNat) w w') => ho.own hk
   have HT := Hd HT
   have HO := Hd HO
   generalize hS : (if fR (o % 32) = 0 then (t (o / 32).toNat).sto (o % 32) x else t (o / 32).toNat) = S at *
   generalize hT : (if fR (o % 32) = 0 then oF t (o / 32).toNat ((t (o / 32).toNat).sto (o % 32) x) else t) = T at *
   clear hS hT H
   generalize fR (o % 32) = E at *
   generalize (o / 32).toNat = r at *
   generalize o % 32 = s at *
   go_enter func276, ntmps276
   go_wp2_with fail
   refine F.mono ?_
   rintro e w1 ⟨rfl, rfl⟩
   go_wp2_with fail
   refine C.mono ?_
   rintro e w1 ⟨rfl, a, ho⟩
   go_wp2_with fail
   go_ret
   exact ⟨rfl, (HT.out _ _ ho a HS.out).congr HC.out, HO.out _ ho⟩
 . rw [if_neg hE, if_neg hE]
   have F := aDL h o _ o0 o1 rfl hE
   have hn : (jR n o == 0) = false := by simpa using hE
   have hn2 : (jR n o != 0) = true := by simpa using hE
   generalize jR n o = E at *
   clear hE
   have H := Hd h
   clear h
   go_enter func276, ntmps276
   go_wp2_with fail
   refine F.mono ?_
   rintro e w1 ⟨rfl, rfl⟩
   go_wp2_with fail
   go_ret
   exact ⟨rfl, H.out, aF.refl _ _⟩
end
structure Wd where
 en : Bool
 lk : Bool
 ar : Bool
 cl : Int
 tot : Int
 si : Int
 fa : Int
structure Wd.ok (t : Wd) : Prop where
 c0 : 0 <= t.cl
 c1 : t.cl < 4294967296
 t0 : 0 <= t.tot
 t1 : t.tot < 4294967296
 s0 : 0 <= t.si
 s1 : t.si <= t.tot
 run : t.en = true -> t.fa = 0 -> t.si < t.tot
 win : t.en = true -> t.cl < t.tot
 fa : t.fa = 0 \/ t.fa = 2 \/ t.fa = 4 \/ t.fa = 8
 idle : t.en = false -> t.fa = 0 /\ t.si = 0 /\ t.ar = false
def wz : Wd := ⟨false, false, false, 0, 0, 0, 0⟩
theorem aKs : wz.ok := ⟨by decide, by decide, by decide, by decide, by decide, by decide, by decide, by decide, .inl rfl, fun _ => ⟨rfl, rfl, rfl⟩⟩
def Wd.left (t : Wd) : Int := if t.en = true /\ t.fa = 0 then t.tot - t.si else 18446744073709551615
def Wd.tick (t : Wd) (n : Int) : Wd := if t.en = true /\ t.fa = 0 then (if t.tot <= t.si + n then { t with si := t.tot, fa := 2 } else { t with si := t.si + n }) else t
def Wd.ran (t : Wd) (n : Int) : Int := if t.fa ≠ 0 then 0 else if t.en = true then (if t.tot <= t.si + n then t.tot - t.si else n) else n
theorem Wd.tick_ok {t : Wd} (h : t.ok) {n : Int} (n0 : 0 <= n) : (t.tick n).ok := by
 obtain ⟨c0, c1, t0, t1, s0, s1, run, win, fa, idle⟩ := h
 unfold Wd.tick
 split
 . rename_i he
   split
   . exact ⟨c0, c1, t0, t1, t0, Int.le_refl _, fun _ h => absurd h (show ¬ (2 : Int) = 0 by decide), win, .inr (.inl rfl), fun h => absurd (he.1.symm.trans h) (by decide)⟩
   . exact ⟨c0, c1, t0, t1, by show 0 <= t.si + n; omega, by show t.si + n <= t.tot; omega, fun _ _ => by show t.si + n < t.tot; omega, win, fa, fun h => absurd (he.1.symm.trans h) (by decide)⟩
 . exact ⟨c0, c1, t0, t1, s0, s1, run, win, fa, idle⟩
def eL (o : Int) : Int := if o % 4 ≠ 0 then 11 else if o <= 16 then 0 else 10
def kQ (o : Int) : Int := if o = 16 then 12 else eL o
def Wd.val (t : Wd) (o : Int) : Int := if o = 0 then tk t.en + 2 * tk t.lk else if o = 4 then t.cl else if o = 8 then t.tot else if o = 16 then t.si else 0
def Wd.ctlTo (t : Wd) (v : Int) : Wd := if t.en = false /\ v % 2 = 1 /\ t.cl < t.tot then { t with en := true, si := 0, ar := false } else if t.en = true /\ v % 2 = 0 then { t with en := false, si := 0, ar := false } else t
def Wd.ctlPut (t : Wd) (v : Int) : Wd := if t.lk = true then t else { t.ctlTo v with lk := (v / 2 % 2 == 1) }
def Wd.key (t : Wd) (v : Int) : Wd :=
 if t.en = false then t else if v = 23130 then { t with ar := true } else if v = 42405 /\ t.ar = true then (if t.si < t.cl then { t with fa := 4 } else { t with si := 0, ar := false }) else if t.si < t.cl then { t with fa := 8 } else { t with ar := false }
def Wd.sto (t : Wd) (o v : Int) : Wd :=
 if t.fa ≠ 0 then t else if o = 0 then t.ctlPut v else if o = 4 then (if t.lk = true \/ t.en = true then t else { t with cl := v }) else if o = 8 then (if t.lk = true \/ t.en = true then t else { t with tot := v }) else if o = 12 then t.key v else t
theorem Wd.sto_ok {t : Wd} (h : t.ok) {o v : Int} (v0 : 0 <= v) (v1 : v < 4294967296) : (t.sto o v).ok := by
 unfold Wd.sto
 split
 . exact h
 rename_i hf
 have hf0 : t.fa = 0 := by simpa using hf
 obtain ⟨c0, c1, t0, t1, s0, s1, run, win, fa, idle⟩ := h
 have same : t.ok := ⟨c0, c1, t0, t1, s0, s1, run, win, fa, idle⟩
 split
 . unfold Wd.ctlPut
   split
   . exact same
   . have hc : (t.ctlTo v).ok := by
      unfold Wd.ctlTo
      split
      . rename_i hx
        exact ⟨c0, c1, t0, t1, Int.le_refl _, t0, fun _ _ => by show 0 < t.tot; omega, fun _ => hx.2.2, .inl hf0, fun h => absurd h (by simp)⟩
      . split
        . exact ⟨c0, c1, t0, t1, Int.le_refl _, t0, fun h => absurd h (by simp), fun h => absurd h (by simp), .inl hf0, fun _ => ⟨hf0, rfl, rfl⟩⟩
        . exact same
     obtain ⟨c0, c1, t0, t1, s0, s1, run, win, fa, idle⟩ := hc
     exact ⟨c0, c1, t0, t1, s0, s1, run, win, fa, idle⟩
 split
 . split
   . exact same
   . rename_i hx
     have he : t.en = false := by cases h : t.en <;> simp_all
     obtain ⟨_, hsi, har⟩ := idle he
     exact ⟨v0, v1, t0, t1, s0, s1, run, fun h => absurd (h.symm.trans he) (by decide), fa, idle⟩
 split
 . split
   . exact same
   . rename_i hx
     have he : t.en = false := by cases h : t.en <;> simp_all
     obtain ⟨_, hsi, har⟩ := idle he
     exact ⟨c0, c1, v0, v1, s0, by show t.si <= v; omega, fun h => absurd (h.symm.trans he) (by decide), fun h => absurd (h.symm.trans he) (by decide), fa, idle⟩
 split
 . unfold Wd.key
   split
   . exact same
   rename_i hen
   have he : t.en = true := by cases h : t.en <;> simp_all
   have nid : t.en = false -> False := fun h => absurd (he.symm.trans h) (by decide)
   have hw := win he
   split
   . exact ⟨c0, c1, t0, t1, s0, s1, run, win, fa, fun h => (nid h).elim⟩
   split
   . split
     . exact ⟨c0, c1, t0, t1, s0, s1, fun _ h => absurd h (show ¬ (4 : Int) = 0 by decide), win, .inr (.inr (.inl rfl)), fun h => (nid h).elim⟩
     . exact ⟨c0, c1, t0, t1, Int.le_refl _, t0, fun _ _ => by show 0 < t.tot; omega, win, fa, fun h => (nid h).elim⟩
   split
   . exact ⟨c0, c1, t0, t1, s0, s1, fun _ h => absurd h (show ¬ (8 : Int) = 0 by decide), win, .inr (.inr (.inr rfl)), fun h => (nid h).elim⟩
   . exact ⟨c0, c1, t0, t1, s0, s1, run, win, fa, fun h => (nid h).elim⟩
 . exact same
structure Rs where
 ca : Int
 ct : Int
 la : Int
 qs : Bool
def pQ (c : Int) : Prop := c = 2 \/ c = 4 \/ c = 8 \/ c = 16
instance (c : Int) : Decidable (pQ c) := by unfold pQ; infer_instance
structure Rs.ok (t : Rs) : Prop where
 a0 : 0 <= t.ca
 a1 : t.ca < 4294967296
 c0 : 0 <= t.ct
 c1 : t.ct < 4294967296
 l0 : 1 <= t.la
 l1 : t.la < 17
def rs0 : Rs := ⟨0, 0, 0, false⟩
def rsN : Rs := ⟨1, 0, 1, false⟩
theorem aM2 : rsN.ok := ⟨by decide, by decide, by decide, by decide, by decide, by decide⟩
def vB (n : Int) : Int := if n < 4294967295 then n + 1 else n
theorem aDC (n : Int) (n0 : 0 <= n) (n1 : n < 4294967296) : 0 <= vB n /\ vB n < 4294967296 := by unfold vB; split <;> omega
def Rs.put (t : Rs) (c : Int) : Rs := ⟨bits BinOp.or IntKind.u32 t.ca c, vB t.ct, c, false⟩
def Rs.ltc (t : Rs) (c : Int) : Rs := if pQ c then t.put c else t
theorem tX {c : Int} (h : pQ c) : 1 <= c /\ c < 17 := by unfold pQ at h; omega
theorem Rs.put_ok {t : Rs} (h : t.ok) {c : Int} (hc : pQ c) : (t.put c).ok := by
 obtain ⟨c0, c1⟩ := tX hc
 obtain ⟨o0, o1⟩ := aEr t.ca c h.a0 h.a1 (by omega) (by omega)
 obtain ⟨u0, u1⟩ := aDC t.ct h.c0 h.c1
 exact ⟨o0, o1, u0, u1, c0, c1⟩
theorem Rs.ltc_ok {t : Rs} (h : t.ok) (c : Int) : (t.ltc c).ok := by
 unfold Rs.ltc
 split
 . exact Rs.put_ok h (by assumption)
 . exact h
def cW (o : Int) : Int := if o % 4 ≠ 0 then 11 else if 16 <= o then 10 else 0
def kP (o : Int) : Int := if cW o ≠ 0 then cW o else if o = 4 \/ o = 12 then 12 else 0
theorem lS {o : Int} (o0 : 0 <= o) (h : cW o = 0) : o = 0 \/ o = 4 \/ o = 8 \/ o = 12 := by
 unfold cW at h
 split at h
 . omega
 . split at h <;> omega
def Rs.val (t : Rs) (o : Int) : Int := if o = 0 then t.ca else if o = 4 then t.ct else if o = 12 then t.la else 0
def Rs.clr (t : Rs) (v : Int) : Rs := { t with ca := bits BinOp.andNot IntKind.u32 t.ca v }
def Rs.ask (t : Rs) (v : Int) : Rs := { t with qs := t.qs || (v == 45063) }
def Rs.sto (t : Rs) (o v : Int) : Rs := if o = 0 then t.clr v else if o = 8 then t.ask v else t
theorem Rs.clr_ok {t : Rs} (h : t.ok) {v : Int} (v0 : 0 <= v) (v1 : v < 4294967296) : (t.clr v).ok := by
 obtain ⟨b0, b1⟩ := iU t.ca v h.a0 h.a1 v0 v1
 exact ⟨b0, b1, h.c0, h.c1, h.l0, h.l1⟩
theorem Rs.ask_ok {t : Rs} (h : t.ok) (v : Int) : (t.ask v).ok := ⟨h.a0, h.a1, h.c0, h.c1, h.l0, h.l1⟩
theorem Rs.sto_ok {t : Rs} (h : t.ok) {o v : Int} (v0 : 0 <= v) (v1 : v < 4294967296) : (t.sto o v).ok := by
 unfold Rs.sto
 split
 . exact Rs.clr_ok h v0 v1
 . split
   . exact Rs.ask_ok h v
   . exact h
theorem aIH (k i : Nat) : aO ((2 ^ k : Nat) : Int) i = decide (i = k) := by
 rw [bG _ _ (Int.natCast_nonneg _), Int.toNat_natCast, Nat.testBit_two_pow]
 by_cases h : i = k
 . simp [h]
 . rw [decide_eq_false (fun e : k = i => h e.symm), decide_eq_false h]
theorem aCG (a : Int) (k i : Nat) (a0 : 0 <= a) (a1 : a < 4294967296) (hk : k < 32) : aO (bits BinOp.or IntKind.u32 a ((2 ^ k : Nat) : Int)) i = if i = k then true else aO a i := by
 have hp : 2 ^ k <= 2 ^ 31 := Nat.pow_le_pow_right (by decide) (by omega)
 rw [aK7 a _ i a0 a1 (Int.natCast_nonneg _) (by generalize 2 ^ k = x at *; omega), aIH]
 by_cases h : i = k
 . simp [h]
 . simp [h]
end Go.Proofs.YtealhichdbimlaaGreat.B
