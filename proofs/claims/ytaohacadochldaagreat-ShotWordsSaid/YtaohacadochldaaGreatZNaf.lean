/- A part of the proof of a law of layer 12: af. -/
import Derived.Test.YtaohacadochldaaGreatZNae
set_option linter.unusedVariables false
set_option linter.unusedSimpArgs false
set_option maxHeartbeats 12800000
set_option maxRecDepth 100000
namespace Go.Proofs.YtaohacadochldaaGreat.B
open Go.Proofs.Tryz
open Go.ChangeShapes Go.WideShapes Go.RowKit Go.Sort
theorem aC6 (f : Nat -> Bool) (k : Nat) (h : k < 32) : bits BinOp.or IntKind.u32 (ob f k) (un k) = ob f k + un k := by
 have h1 := fJ f k (by omega)
 have h2 := mL k
 rw [xM _ _ h1.1 h1.2 h2.1 h2.2, yT k h]
 unfold ob
 rw [Int.toNat_natCast, Int.toNat_natCast, Nat.or_comm]
 have := Nat.two_pow_add_eq_or_of_lt (fK f k) 1
 rw [Nat.mul_one] at this
 rw [<- this]
 omega
theorem xF (f g : Nat -> Bool) : ∀ k : Nat, (∀ i, i < k -> f i = g i) -> ob f k = ob g k := by
 intro k
 induction k with
 | zero => intro _; rfl
 | succ k ih =>
   intro h
   have h1 := ih fun i hi => h i (by omega)
   have h2 := h k (by omega)
   unfold ob at h1 ⊢
   unfold bU
   rw [h2]
   have h3 : bU f k = bU g k := by omega
   rw [h3]
def nvr : Int := 18446744073709551615
def gE (t : Nat -> Tm) (a b : Nat) (m i : Int) : Prop :=
 (i = -1 /\ m = nvr /\ ∀ k, a <= k -> k < b -> (t k).en = false) \/
 ∃ j : Nat, i = j /\ a <= j /\ j < b /\ (t j).en = true /\ m = (t j).left /\ ∀ k, a <= k -> k < b -> (t k).en = true -> m <= (t k).left /\ (k < j -> m < (t k).left)
theorem gE.bounds {t : Nat -> Tm} {a b : Nat} {m i : Int} (h : gE t a b m i) (ok : ∀ k, k < b -> (t k).ok) : 1 <= m /\ m <= nvr := by
 unfold nvr
 rcases h with ⟨_, rfl, _⟩ | ⟨j, _, _, hj, _, rfl, _⟩
 . unfold nvr; omega
 . have := (ok j hj).left; omega
theorem gE.congr {t s : Nat -> Tm} {a b : Nat} {m i : Int} (h : gE t a b m i) (hs : ∀ k, a <= k -> k < b -> t k = s k) : gE s a b m i := by
 rcases h with ⟨rfl, rfl, h⟩ | ⟨j, rfl, a1, b1, e1, rfl, h⟩
 . exact .inl ⟨rfl, rfl, fun k h1 h2 => by rw [<- hs k h1 h2]; exact h k h1 h2⟩
 . refine .inr ⟨j, rfl, a1, b1, by rw [<- hs j a1 b1]; exact e1, by rw [hs j a1 b1], fun k h1 h2 e => ?_⟩
   rw [<- hs k h1 h2] at e ⊢
   exact h k h1 h2 e
theorem gE.take {t : Nat -> Tm} {k : Nat} {m i : Int} (h : gE t 0 k m i) (hok : ∀ q, q < k -> (t q).ok) (ok : (t k).ok) (hl : (t k).lef < m) : gE t 0 (k + 1) (t k).lef k := by
 have hm := (h.bounds hok).2
 have he : (t k).en = true := by
  cases he : (t k).en
  . unfold Tm.lef at hl
    rw [he] at hl
    unfold nvr at hm
    simp at hl
    omega
  . rfl
 have hlf : (t k).lef = (t k).left := by unfold Tm.lef; rw [if_pos he]
 rw [hlf] at hl ⊢
 refine .inr ⟨k, rfl, by omega, by omega, he, rfl, fun q h1 h2 e => ?_⟩
 by_cases hq : q = k
 . subst hq; exact ⟨Int.le_refl _, fun hj => by omega⟩
 . rcases h with ⟨rfl, rfl, h⟩ | ⟨j, rfl, a1, b1, e1, rfl, h⟩
   . rw [h q h1 (by omega)] at e; cases e
   . have := h q h1 (by omega) e
     exact ⟨by omega, fun _ => by omega⟩
theorem gE.keep {t : Nat -> Tm} {k n : Nat} {m i : Int} (h : gE t (k + 1) n m i) (ok : (t k).ok) (hl : ((t k).en = true -> m < (t k).left)) : gE t k n m i := by
 rcases h with ⟨rfl, rfl, h⟩ | ⟨j, rfl, a1, b1, e1, rfl, h⟩
 . refine .inl ⟨rfl, rfl, fun q h1 h2 => ?_⟩
   by_cases hq : q = k
   . subst hq
     cases he : (t q).en
     . rfl
     . have := hl he
       have := ok.left
       unfold nvr at *
       omega
   . exact h q (by omega) h2
 . refine .inr ⟨j, rfl, by omega, b1, e1, rfl, fun q h1 h2 e => ?_⟩
   by_cases hq : q = k
   . subst hq; have := hl e; exact ⟨by omega, fun _ => this⟩
   . exact h q (by omega) h2 e
theorem gE.put {t : Nat -> Tm} {k n : Nat} {m i : Int} (h : gE t (k + 1) n m i) (hk : k < n) (he : (t k).en = true) (hl : (t k).left <= m) : gE t k n (t k).left k := by
 refine .inr ⟨k, rfl, Nat.le_refl _, hk, he, rfl, fun q h1 h2 e => ?_⟩
 by_cases hq : q = k
 . subst hq; exact ⟨Int.le_refl _, fun hj => by omega⟩
 . rcases h with ⟨rfl, rfl, h⟩ | ⟨j, rfl, a1, b1, e1, rfl, h⟩
   . rw [h q (by omega) h2] at e; cases e
   . have := h q (by omega) h2 e
     exact ⟨by omega, fun hj => by omega⟩
def kQ (t : Nat -> Tm) (i : Nat) (s : Tm) : Nat -> Tm := fun k => if k = i then s else t k
theorem iX (t : Nat -> Tm) (i : Nat) (s : Tm) : kQ t i s i = s := if_pos rfl
theorem iY (t : Nat -> Tm) {i k : Nat} (s : Tm) (h : k ≠ i) : kQ t i s k = t k := if_neg h
def eH (n : Nat) (o : Int) : Int := if (o % 4 != 0) = true then 11 else if (n : Int) <= o / 32 then 10 else 0
abbrev tBk : TypeId := 244
abbrev tRm : TypeId := 296
def dM (k : Nat) : Value := .pointer (some ⟨k, 0, none⟩)
def rm (n : Nat) (q : Nat -> Nat) : List Value := (List.range 8).map fun i => if i < n then dM (q i) else .pointer none
theorem nO (n : Nat) (q : Nat -> Nat) : (rm n q).length = 8 := by simp [rm]
theorem xW (n : Nat) (q : Nat -> Nat) (i : Nat) (h : i < n) (h8 : n <= 8) : (rm n q)[i]? = some (dM (q i)) := by simp [rm, show i < 8 by omega, h]
theorem aBz (n : Nat) (q : Nat -> Nat) (r : Nat) (h : n < 8) : (rm n q).set n (dM r) = rm (n + 1) (fun i => if i = n then r else q i) := by
 apply List.ext_getElem?
 intro i
 rw [List.getElem?_set]
 by_cases e : n = i
 . subst e
   rw [if_pos rfl, if_pos (by rw [nO]; exact h), xW _ _ _ (by omega) (by omega)]
   simp
 . rw [if_neg e]
   by_cases h8 : i < 8
   . unfold rm
     simp only [List.getElem?_map, List.getElem?_range h8, Option.map_some]
     by_cases hi : i < n
     . rw [if_pos hi, if_pos (by omega), if_neg (fun x => e x.symm)]
     . rw [if_neg hi, if_neg (by omega)]
   . rw [List.getElem?_eq_none (by rw [nO]; omega), List.getElem?_eq_none (by rw [nO]; omega)]
structure cT (w : World) (g n : Nat) (q : Nat -> Nat) (t : Nat -> Tm) : Prop where
 room : w.heap[g]? = some (.cells (rm n q).toArray tRm (0, 0))
 tms : ∀ i, i < n -> dT w (q i) tC (t i)
 ok : ∀ i, i < n -> (t i).ok
 one : ∀ i j, i < n -> j < n -> q i = q j -> i = j
 n8 : n <= 8
structure bG (w : World) (p g n : Nat) (q : Nat -> Nat) (t : Nat -> Tm) : Prop where
 cell : w.heap[p]? = some (.cells #[.slice (some ⟨g, 0, none⟩) n n] tBk (0, 0))
 rm : cT w g n q t
def own (n : Nat) (q : Nat -> Nat) (k : Nat) : Prop := ∃ i, i < n /\ k = q i
section
variable {w w' : World} {p g n : Nat} {q : Nat -> Nat} {t s : Nat -> Tm}
theorem cT.lt (h : cT w g n q t) : g < w.heap.size := lt_of_block h.room
theorem cT.ltq (h : cT w g n q t) {i : Nat} (hi : i < n) : q i < w.heap.size := (h.tms i hi).lt
theorem cT.gne (h : cT w g n q t) {i : Nat} (hi : i < n) : q i ≠ g := aC (h.tms i hi) h.room rfl
theorem cT.below (h : cT w g n q t) (hb : Below w.heap.size w w') : cT w' g n q t :=
 ⟨aB hb h.room h.lt, fun i hi => (h.tms i hi).below hb, h.ok, h.one, h.n8⟩
theorem cT.off {S : Nat -> Prop} (h : cT w g n q t) (ho : aD S w w') (hg : ¬ S g) (hq : ∀ i, i < n -> ¬ S (q i)) : cT w' g n q t :=
 ⟨ho.at h.room hg, fun i hi => (h.tms i hi).off ho (hq i hi), h.ok, h.one, h.n8⟩
theorem cT.congr (h : cT w g n q t) (hs : ∀ i, i < n -> t i = s i) : cT w g n q s :=
 ⟨h.room, fun i hi => by rw [<- hs i hi]; exact h.tms i hi, fun i hi => by rw [<- hs i hi]; exact h.ok i hi, h.one, h.n8⟩
theorem cT.turn (h : cT w g n q t) {i : Nat} {x : Tm} (hi : i < n) (a : dT w' (q i) tC x) (ox : x.ok) (ho : aD (· = q i) w w') : cT w' g n q (kQ t i x) :=
 ⟨ho.at h.room (fun e => h.gne hi e.symm), fun k hk => by
  by_cases e : k = i
  . subst e; rw [iX]; exact a
  . rw [iY _ _ e]; exact (h.tms k hk).off ho (fun e2 => e (h.one k i hk hi e2)), fun k hk => by
  by_cases e : k = i
  . subst e; rw [iX]; exact ox
  . rw [iY _ _ e]; exact h.ok k hk, h.one, h.n8⟩
theorem cT.cell (h : cT w g n q t) {i : Nat} (hi : i < n) : w.cell? ⟨g, i, none⟩ = some (.pointer (some ⟨q i, 0, none⟩)) := by
 rw [aA h.room i]
 simpa [dM] using xW n q i hi h.n8
theorem bG.ltp (h : bG w p g n q t) : p < w.heap.size := lt_of_block h.cell
theorem bG.c0 (h : bG w p g n q t) : w.cell? ⟨p, 0, none⟩ = some (.slice (some ⟨g, 0, none⟩) n n) := by rw [aA h.cell 0]; rfl
theorem bG.pne (h : bG w p g n q t) {i : Nat} (hi : i < n) : q i ≠ p := aC (h.rm.tms i hi) h.cell rfl
theorem bG.below (h : bG w p g n q t) (hb : Below w.heap.size w w') : bG w' p g n q t := ⟨aB hb h.cell h.ltp, h.rm.below hb⟩
theorem bG.off {S : Nat -> Prop} (h : bG w p g n q t) (ho : aD S w w') (hp : ¬ S p) (hg : ¬ S g) (hq : ∀ i, i < n -> ¬ S (q i)) : bG w' p g n q t := ⟨ho.at h.cell hp, h.rm.off ho hg hq⟩
theorem bG.congr (h : bG w p g n q t) (hs : ∀ i, i < n -> t i = s i) : bG w p g n q s := ⟨h.cell, h.rm.congr hs⟩
theorem bG.turn (h : bG w p g n q t) {i : Nat} {x : Tm} (hi : i < n) (a : dT w' (q i) tC x) (ox : x.ok) (ho : aD (· = q i) w w') : bG w' p g n q (kQ t i x) :=
 ⟨ho.at h.cell (fun e => h.pne hi e.symm), h.rm.turn hi a ox ho⟩
theorem bG.get (h : bG w p g n q t) {i : Nat} (hi : i < n) : w.cell? ⟨g, i, none⟩ = some (.pointer (some ⟨q i, 0, none⟩)) := h.rm.cell hi
theorem bG.free (h : bG w p g n q t) (j : Nat) : w.frozen? ⟨g, j, none⟩ = false := aH h.rm.room j
end
theorem aD.own {n : Nat} {q : Nat -> Nat} {i : Nat} (hi : i < n) {w w' : World} (h : aD (· = q i) w w') : aD (own n q) w w' := h.mono fun k _ e => ⟨i, hi, e⟩
theorem aD0 : Obj.cells #[.int .u32 0, .int .u32 0, .int .u32 0, .int .u32 0, .int .u64 0] 298 (0, 0) = .cells (wl tz).toArray 298 (0, 0) := rfl
theorem aC2 (t : Tm) (n : Int) (p : Nat) (w : World) (h : t.ok) (a : dT w p tC t) (n0 : 0 <= n) (n1 : n < 18446744073709551616) :
 Calls prog 282 #[.pointer (some ⟨p, 0, none⟩), .int .u64 n] w fun e w' => e = .returned (.tuple #[]) /\ dT w' p tC (t.tick n) /\ aD (· = p) w w' := by
 obtain ⟨R, hR⟩ : ∃ R, t.tick n = R := ⟨_, rfl⟩
 rw [hR]
 have HR := Hd hR
 clear hR
 go_enter func282, ntmps282
 go_wp2_with fail
 go_loopw [1] (fun x wr => ∃ (m : Int) (s : Tm), x = .int .u64 m /\ 0 <= m /\ m < 18446744073709551616 /\ s.ok /\ dT wr p tC s /\ aD (· = p) w wr /\ Hid (s.tick m = R)) (fun x wr => (intOf x).toNat)
 case atStart => exact ⟨n, t, rfl, n0, n1, h, a, aD.refl _ _, HR⟩
 case round =>
  clear a h HR n0 n1
  obtain ⟨m, s, rfl, m0, m1, h, a, ho, HR⟩ := hrel
  have hL := h.left
  have RN := Hd (fun w a => aC1 s p w h a)
  cases hen : s.en
  . rw [hen] at RN
    go_wp2_with fail
    refine (RN.out _ a).mono ?_
    rintro e w1 ⟨rfl, hb⟩
    have a1 := a.below hb
    have ho1 := ho.trans (aD.ofBelow hb)
    clear a hb ho
    go_wp2_with fail
    refine (RN.out _ a1).mono ?_
    rintro e w2 ⟨rfl, hb⟩
    have a2 := a1.below hb
    have ho2 := ho1.trans (aD.ofBelow hb)
    clear a1 hb ho1
    go_wp2_with fail
    go_end0
    refine ⟨rfl, ?_, ho2⟩
    rw [<- HR.out, Tm.tick_off hen]; exact a2
  . rw [hen] at RN
    have LF := Hd (fun w => aCy s w h)
    go_wp2_with fail
    refine (RN.out _ a).mono ?_
    rintro e w1 ⟨rfl, hb⟩
    have a1 := a.below hb
    have ho1 := ho.trans (aD.ofBelow hb)
    clear a hb ho
    go_wp2_with (refine qU (.tmp 11) rfl rfl rfl a1 ?_)
    refine (LF.out _).mono ?_
    rintro e w2 ⟨rfl, hb⟩
    have a := a1.below hb
    have ho := ho1.trans (aD.ofBelow hb)
    clear a1 hb ho1
    by_cases hle : s.left <= m
    . go_wp2_with (refine mA rfl (.tmp 19) rfl rfl a ?_)
      refine (LF.out _).mono ?_
      rintro e w1 ⟨rfl, hb⟩
      have a1 := a.below hb
      have ho1 := ho.trans (aD.ofBelow hb)
      clear a hb ho
      have HE := Hd (show s.exp.tick (m - s.left) = R by rw [<- Tm.tick_ge h hen hle]; exact HR.out)
      clear HR LF RN
      have zq : dT (w1.alloc (.cells (wl tz).toArray 298 (0, 0))) w1.heap.size 298 tz := aF w1 (.cells (wl tz).toArray 298 (0, 0))
      have hpq : p ≠ w1.heap.size := by have := a1.lt; omega
      have aP := (a1.below (aO (aT w1) (.cells (wl tz).toArray 298 (0, 0)))).elseRow w1.heap.size (wl s).toArray hpq
      have aQ := dT.row zq s
      have hq0 : w.heap.size <= w1.heap.size := ho1.size
      have hoP : aD (· = p) w ((w1.alloc (.cells (wl tz).toArray 298 (0, 0))).setRow w1.heap.size (wl s).toArray) :=
       ho1.trans (aD.ofBelow (aM (aO (aT w1) _) _ (Nat.le_refl _)))
      go_upto_region 3 with (first | (refine mA rfl (.tmp 25) rfl rfl a1 ?_) | (refine kE rfl (.tmp 4) (.tmp 26) rfl rfl rfl zq ?_))
      rw [aD0]
      clear a1 zq ho1
      generalize ((w1.alloc (.cells (wl tz).toArray 298 (0, 0))).setRow w1.heap.size (wl s).toArray) = W2 at *
      generalize w1.heap.size = q at *
      go_wp2_with (refine mA rfl (.tmp 30) rfl rfl aP ?_)
      refine (aDo s _ h).mono ?_
      rintro e W3 ⟨rfl, hb⟩
      have aP1 := aP.below hb
      have aQ1 := aQ.below hb
      have ho1 := hoP.trans (aD.ofBelow hb)
      clear aP aQ hoP hb
      have aP := dT.row aP1 s.exp
      have aQ := aQ1.elseRow p (wl s.exp).toArray (fun e => hpq e.symm)
      have ho := ho1.trans (iV W3 p (wl s.exp).toArray)
      go_upto_region 4 with (refine kE rfl (.tmp 34) (.tmp 32) rfl rfl rfl aP1 ?_)
      clear aP1 aQ1 ho1
      generalize W3.setRow p (wl s.exp).toArray = W4 at *
      have hE := Tm.exp_ok h
      have hEL := hE.left
      cases hq : eqT s.exp s
      . go_simp
        refine wp_region_quiet_below (by kernel_rfl) (by kernel_rfl) ?_
        repeat (first
         | go_big_quiet_skip
         | (go_big_quiet_want; first
             | (refine nN (.tmp 37) rfl rfl aP.grown ?_; go_simp; go_big_quiet_on)
             | (refine nN (.tmp 4) rfl rfl aQ.grown ?_; go_simp; go_big_quiet_on)
             | (refine aDA (.tmp 38) (.tmp 39) _ rfl rfl rfl ?_; go_simp; go_big_quiet_on)
             | (go_big_quiet_op; first | go_big_quiet_on)))
        refine wpQuiet_nil ?_
        intro _ hw'
        obtain ⟨⟨dq, osq⟩, hw''⟩ := hw'
        subst hw''
        have hbr := below_regrown W4 dq osq
        go_wp2_with fail
        go_roundw
        case rel => exact ⟨m - s.left, s.exp, rfl, by omega, by omega, hE, aP.below hbr, ho.trans (aD.ofBelow hbr), HE⟩
        case measure => simp [intOf]; omega
      . have hs := zT hen hq
        have hm := cX (a := m - s.left) (u := s.exp.left) (by omega)
        have hm2 : (m - s.left) % s.exp.left <= m - s.left := by
         by_cases c : m - s.left < s.exp.left
         . rw [Int.emod_eq_of_lt (by omega) c]; omega
         . omega
        have HE2 := Hd (show s.exp.tick ((m - s.left) % s.exp.left) = R by rw [<- HE.out]; exact (Tm.tick_mod hE (by rw [hs]; exact hen) (by rw [hs]; exact hs) _ (by omega)).symm)
        have LF := Hd (fun w => aCy s.exp w hE)
        clear hs
        go_simp
        refine wp_region_quiet_below (by kernel_rfl) (by kernel_rfl) ?_
        repeat (first
         | go_big_quiet_skip
         | (go_big_quiet_want; first
             | (refine nN (.tmp 37) rfl rfl aP.grown ?_; go_simp; go_big_quiet_on)
             | (refine nN (.tmp 4) rfl rfl aQ.grown ?_; go_simp; go_big_quiet_on)
             | (refine aDA (.tmp 38) (.tmp 39) _ rfl rfl rfl ?_; go_simp; go_big_quiet_on)
             | (go_big_quiet_op; first | go_big_quiet_on)))
        refine wpQuiet_nil ?_
        intro _ hw'
        obtain ⟨⟨dq, osq⟩, hw''⟩ := hw'
        subst hw''
        have hbr := below_regrown W4 dq osq
        have a1 := aP.below hbr
        have ho1 := ho.trans (aD.ofBelow hbr)
        clear aP aQ ho hbr HE
        go_wp2_with (refine mA rfl (.tmp 44) rfl rfl a1 ?_)
        refine (LF.out _).mono ?_
        rintro e W5 ⟨rfl, hb⟩
        have a := a1.below hb
        have ho := ho1.trans (aD.ofBelow hb)
        clear a1 ho1 hb
        go_wp2_with fail
        go_roundw
        case rel => exact ⟨(m - s.left) % s.exp.left, s.exp, rfl, hm.1, by omega, hE, a, ho, HE2⟩
        case measure => simp [intOf]; omega
    . go_wp2_with fail
      refine (RN.out _ a).mono ?_
      rintro e w1 ⟨rfl, hb⟩
      have a1 := a.below hb
      have ho1 := ho.trans (aD.ofBelow hb)
      clear a hb ho
      go_wp2_with (refine mA rfl (.tmp 53) rfl rfl a1 ?_)
      refine (aDp s m _ h m0 (by omega)).mono ?_
      rintro e w2 ⟨rfl, hb⟩
      have a := a1.below hb
      have ho := ho1.trans (aD.ofBelow hb)
      clear a1 hb ho1
      go_wp2_with (refine kE rfl (.tmp 58) (.tmp 56) rfl rfl rfl a ?_)
      go_end0
      refine ⟨rfl, ?_, ho.trans (iV _ _ _)⟩
      rw [<- HR.out, Tm.tick_lt hen (by omega)]; exact dT.row a _
theorem pN (t : Nat -> Tm) (f : Tm -> Tm) (k i : Nat) : kQ (fun i => if i < k then f (t i) else t i) k (f (t k)) i = if i < k + 1 then f (t i) else t i := by
 by_cases e : i = k
 . subst e; rw [iX, if_pos (by omega)]
 . rw [iY _ _ e]
   by_cases c : i < k
   . rw [if_pos (show i < k + 1 by omega)]; exact if_pos c
   . rw [if_neg (show ¬ i < k + 1 by omega)]; exact if_neg c
section
variable {p g n : Nat} {q : Nat -> Nat} {t : Nat -> Tm} {w : World}
theorem zK (h : bG w p g n q t) : Calls prog 201 #[.pointer (some ⟨p, 0, none⟩)] w fun e w' => e = .returned (.slice (some ⟨g, 0, none⟩) n n) /\ w = w' := by
 have c0 := h.c0
 clear h
 go_enter func201, ntmps201
 exact aI
theorem aCT (h : bG w p g n q t) : Calls prog 153 #[.pointer (some ⟨p, 0, none⟩)] w fun e w' => e = .returned (.int .i64 n) /\ w = w' := by
 go_enter func153, ntmps153
 go_wp2_with fail
 refine (zK h).mono ?_
 rintro e w1 ⟨rfl, rfl⟩
 exact aI
theorem aCW (h : bG w p g n q t) (N : Int) (n0 : 0 <= N) (n1 : N < 18446744073709551616) :
 Calls prog 278 #[.pointer (some ⟨p, 0, none⟩), .int .u64 N] w fun e w' => e = .returned (.tuple #[]) /\ bG w' p g n q (fun i => (t i).tick N) /\ aD (own n q) w w' := by
 have n8 := h.rm.n8
 go_enter func278, ntmps278
 go_wp2_with fail
 refine (zK h).mono ?_
 rintro e w1 ⟨rfl, rfl⟩
 go_wp2_with fail
 go_loopw [9] (fun i wr => ∃ k : Nat, k <= n /\ i = .int .i64 k /\ bG wr p g n q (fun i => if i < k then (t i).tick N else t i) /\ aD (own n q) w wr) (fun i wr => n - (intOf i).toNat)
 case atStart => exact ⟨0, by omega, rfl, h.congr (fun i _ => by simp), aD.refl _ _⟩
 case round =>
  obtain ⟨k, hk, rfl, H, ho⟩ := hrel
  by_cases hlt : k < n
  . have hc := H.get hlt
    have ht := H.rm.tms k hlt
    have ok := H.rm.ok k hlt
    simp only [Nat.lt_irrefl, if_false] at ht ok
    have HH := Hd H
    have HO := Hd ho
    clear H ho h
    go_wp2_with fail
    refine (aC2 (t k) N (q k) wr ok ht n0 n1).mono ?_
    rintro e w2 ⟨rfl, a2, ho2⟩
    have H2 := (HH.out.turn hlt a2 (Tm.tick_ok ok n0) ho2).congr (s := fun i => if i < k + 1 then (t i).tick N else t i) (fun i _ => pN t (fun x => x.tick N) k i)
    have HO2 := HO.out.trans (ho2.own hlt)
    clear HH HO ho2 a2 ht ok hc
    go_wp2_with fail
    go_roundw
    case rel => exact ⟨k + 1, by omega, by go_num, H2, HO2⟩
    case measure => simp [intOf]; omega
  . obtain rfl : k = n := by omega
    go_wp2_with fail
    go_end0
    exact ⟨rfl, H.congr (fun i hi => if_pos hi), ho⟩
theorem aA1 (h : bG w p g n q t) :
 Calls prog 276 #[.pointer (some ⟨p, 0, none⟩)] w fun e w' => e = .returned (.tuple #[]) /\ bG w' p g n q (fun i => tz) /\ aD (own n q) w w' := by
 have n8 := h.rm.n8
 go_enter func276, ntmps276
 go_wp2_with fail
 refine (zK h).mono ?_
 rintro e w1 ⟨rfl, rfl⟩
 go_wp2_with fail
 go_loopw [7] (fun i wr => ∃ k : Nat, k <= n /\ i = .int .i64 k /\ bG wr p g n q (fun i => if i < k then tz else t i) /\ aD (own n q) w wr) (fun i wr => n - (intOf i).toNat)
 case atStart => exact ⟨0, by omega, rfl, h.congr (fun i _ => by simp), aD.refl _ _⟩
 case round =>
  obtain ⟨k, hk, rfl, H, ho⟩ := hrel
  by_cases hlt : k < n
  . have hc := H.get hlt
    have ht := H.rm.tms k hlt
    simp only [Nat.lt_irrefl, if_false] at ht
    have HH := Hd H
    have HO := Hd ho
    clear H ho h
    go_wp2_with fail
    refine (aBh (t k) (q k) wr ht).mono ?_
    rintro e w2 ⟨rfl, rfl⟩
    have ho2 := iV wr (q k) (wl tz).toArray
    have H2 := (HH.out.turn hlt (dT.row ht tz) sK ho2).congr (s := fun i => if i < k + 1 then tz else t i) (fun i _ => pN t (fun _ => tz) k i)
    have HO2 := HO.out.trans (ho2.own hlt)
    clear HH HO ho2 ht hc
    generalize wr.setRow (q k) (wl tz).toArray = W2 at *
    go_wp2_with fail
    go_roundw
    case rel => exact ⟨k + 1, by omega, by go_num, H2, HO2⟩
    case measure => simp [intOf]; omega
  . obtain rfl : k = n := by omega
    go_wp2_with fail
    go_end0
    exact ⟨rfl, H.congr (fun i hi => if_pos hi), ho⟩
theorem uV (h : bG w p g n q t) :
 Calls prog 189 #[.pointer (some ⟨p, 0, none⟩), .func (.func 190) #[] #[]] w fun e w' => e = .returned (.int .u32 (ob (fun i => (t i).st && (t i).iq) n)) /\ Below w.heap.size w w' := by
 have n8 := h.rm.n8
 go_enter func189, ntmps189
 go_wp2_with fail
 refine (zK h).mono ?_
 rintro e w1 ⟨rfl, rfl⟩
 go_wp2_with fail
 go_loopw [5, 11] (fun a i wr => ∃ (k : Nat) (X : Int), k <= n /\ i = .int .i64 k /\ a = .int .u32 X /\ 0 <= X /\ X < 4294967296 /\ Hid (X = ob (fun i => (t i).st && (t i).iq) k) /\ bG wr p g n q t /\ Below w.heap.size w wr) (fun a i wr => n - (intOf i).toNat)
 case atStart => exact ⟨0, 0, by omega, rfl, rfl, by omega, by omega, Hd rfl, h, aT w⟩
 case round =>
  clear h
  obtain ⟨k, X, hk, rfl, rfl, X0, X1, hX, H, hB⟩ := hrel
  by_cases hlt : k < n
  . have hc := H.get hlt
    have ht := H.rm.tms k hlt
    have ok := H.rm.ok k hlt
    have HH := Hd H
    have ho := aC6 (fun i => (t i).st && (t i).iq) k (by omega)
    have hbd := fJ (fun i => (t i).st && (t i).iq) (k + 1) (by omega)
    have hun := mL k
    rw [<- hX.out] at ho
    have hy := aBl (fun i => (t i).st && (t i).iq) k (by omega)
    have hno := aAn (fun i => (t i).st && (t i).iq) k
    obtain ⟨f, hf⟩ : ∃ f, ((t k).st && (t k).iq) = f := ⟨_, rfl⟩
    have C := aCz (t k) (q k) wr ok ht
    rw [hf] at C
    rw [hf] at hy hno
    have HY := Hd hy
    have HN := Hd hno
    have HB := Hd hbd
    clear H hf hy hno hbd
    cases f
    . go_wp2_with fail
      refine C.mono ?_
      rintro e w2 ⟨rfl, hb⟩
      have H2 := HH.out.below hb
      have hB2 := tr hB hb
      clear HH hc ht hb ho hun C
      go_wp2_with fail
      go_roundw
      case rel => exact ⟨k + 1, X, by omega, by go_num, rfl, X0, X1, Hd (by rw [HN.out (by simp)]; exact hX.out), H2, hB2⟩
      case measure => simp [intOf]; omega
    . have HO := Hd ho
      clear ho
      go_wp2_with fail
      refine C.mono ?_
      rintro e w2 ⟨rfl, hb⟩
      have H2 := HH.out.below hb
      have hB2 := tr hB hb
      clear HH hc ht hb C
      go_wp2_with fail
      go_roundw
      case rel => exact ⟨k + 1, ob (fun i => (t i).st && (t i).iq) (k + 1), by omega, by go_num, by rw [HY.out (by simp), <- hX.out, <- HO.out]; rfl, HB.out.1, HB.out.2, Hd rfl, H2, hB2⟩
      case measure => simp [intOf]; omega
  . obtain rfl : k = n := by omega
    go_wp2_with fail
    go_ret
    exact ⟨bV hX.out, hB⟩
theorem cV {P : Prop} (h : P := by
 go_wp2_with fail
 go_ret
 exact ⟨rfl, hb⟩
 ) : P := h
theorem aA0 (h : bG w p g n q t) :
 Calls prog 113 #[.pointer (some ⟨p, 0, none⟩)] w fun e w' => e = .returned (.int .u32 (ob (fun i => (t i).st && (t i).iq) n)) /\ Below w.heap.size w w' := by
 go_enter func113, ntmps113
 go_wp2_with fail
 refine (uV h).mono ?_
 rintro e w1 ⟨rfl, hb⟩
 exact cV
end
section
variable {p g n : Nat} {q : Nat -> Nat} {t : Nat -> Tm} {w : World}
theorem gW {P : Prop} (h : P := by
 simp [results, results279, go_sem]
 ) : P := h
theorem rK (h : bG w p g n q t) (o E : Int) (o0 : 0 <= o) (o1 : o < 4294967296) (hE : eH n o = E) (hne : E ≠ 0) :
 Calls prog 279 #[.pointer (some ⟨p, 0, none⟩), .int .u32 o] w fun e w' => e = .returned (.tuple #[.pointer none, .int .u32 0, .int .i64 E]) /\ w = w' := by
 have n8 := h.rm.n8
 have H := Hd h
 clear h
 unfold eH at hE
 cases h4 : (o % 4 != 0)
 . rw [h4, if_neg (by simp)] at hE
   by_cases hn : (n : Int) <= o / 32
   . rw [if_pos hn] at hE
     subst hE
     clear hne
     go_enter func279, ntmps279
     go_wp2_with fail
     refine (aCT H.out).mono ?_
     rintro e w1 ⟨rfl, rfl⟩
     go_wp2_with fail
     refine bodyPost_ret (v := .tuple #[.pointer none, .int .u32 0, .int .i64 10]) ?_ rfl ⟨rfl, rfl⟩
     exact gW
   . rw [if_neg hn] at hE
     exact absurd hE.symm hne
 . rw [h4, if_pos rfl] at hE
   subst hE
   clear hne
   go_enter func279, ntmps279
   go_wp2_with fail
   refine bodyPost_ret (v := .tuple #[.pointer none, .int .u32 0, .int .i64 11]) ?_ rfl ⟨rfl, rfl⟩
   exact gW
theorem iC {n : Nat} {o : Int} (o0 : 0 <= o) (h : eH n o = 0) : (o % 4 != 0) = false /\ o / 32 < n /\ (o / 32).toNat < n := by
 unfold eH at h
 cases h4 : (o % 4 != 0)
 . rw [h4, if_neg (by simp)] at h
   by_cases hn : (n : Int) <= o / 32
   . rw [if_pos hn] at h; omega
   . exact ⟨rfl, by omega, by omega⟩
 . rw [h4, if_pos rfl] at h; omega
theorem aAj (h : bG w p g n q t) (o : Int) (o0 : 0 <= o) (o1 : o < 4294967296) (hE : eH n o = 0) :
 Calls prog 279 #[.pointer (some ⟨p, 0, none⟩), .int .u32 o] w fun e w' => e = .returned (.tuple #[.pointer (some ⟨q (o / 32).toNat, 0, none⟩), .int .u32 (o % 32), .int .i64 0]) /\ w = w' := by
 obtain ⟨h4, hn, hk⟩ := iC o0 hE
 have n8 := h.rm.n8
 have c0 := h.c0
 have hc := h.get hk
 have H := Hd h
 clear h hE
 go_enter func279, ntmps279
 go_wp2_with fail
 refine (aCT H.out).mono ?_
 rintro e w1 ⟨rfl, rfl⟩
 go_wp2_with fail
 refine bodyPost_ret (v := .tuple #[.pointer (some ⟨q (o / 32).toNat, 0, none⟩), .int .u32 (o % 32), .int .i64 0]) ?_ rfl ⟨rfl, rfl⟩
 exact gW
end
def rR (n : Nat) (o : Int) : Int := if eH n o = 0 then dY (o % 32) else eH n o
def zX (n : Nat) (t : Nat -> Tm) (o : Int) : Int := if eH n o = 0 then (t (o / 32).toNat).val (o % 32) else 0
def oQ (n : Nat) (o : Int) : Int := if eH n o = 0 then eM (o % 32) else eH n o
def nC (n : Nat) (t : Nat -> Tm) (o x : Int) : Nat -> Tm := if oQ n o = 0 then kQ t (o / 32).toNat ((t (o / 32).toNat).sto (o % 32) x) else t
section
variable {p g n : Nat} {q : Nat -> Nat} {t : Nat -> Tm} {w : World}
theorem aCU (h : bG w p g n q t) (o : Int) (o0 : 0 <= o) (o1 : o < 4294967296) :
 Calls prog 275 #[.pointer (some ⟨p, 0, none⟩), .int .u32 o] w fun e w' => e = .returned (.tuple #[.int .u32 (zX n t o), .int .i64 (rR n o)]) /\ w = w' := by
 unfold zX rR
 by_cases hE : eH n o = 0
 . rw [if_pos hE, if_pos hE]
   obtain ⟨_, _, hk⟩ := iC o0 hE
   have C := aC0 (t (o / 32).toNat) (o % 32) (q (o / 32).toNat) w (h.rm.ok _ hk) (h.rm.tms _ hk) (by omega) (by omega)
   have F := aAj h o o0 o1 hE
   generalize (t (o / 32).toNat).val (o % 32) = V at *
   generalize dY (o % 32) = E at *
   generalize q (o / 32).toNat = r at *
   generalize o % 32 = s at *
   clear h hE hk
   go_enter func275, ntmps275
   go_wp2_with fail
   refine F.mono ?_
   rintro e w1 ⟨rfl, rfl⟩
   go_wp2_with fail
   refine C.mono ?_
   rintro e w1 ⟨rfl, rfl⟩
   exact dZ
 . rw [if_neg hE, if_neg hE]
   have F := rK h o _ o0 o1 rfl hE
   have hn : (eH n o == 0) = false := by simpa using hE
   have hn2 : (eH n o != 0) = true := by simpa using hE
   generalize eH n o = E at *
   clear h hE
   go_enter func275, ntmps275
   go_wp2_with fail
   refine F.mono ?_
   rintro e w1 ⟨rfl, rfl⟩
   exact dZ
theorem aA2 (h : bG w p g n q t) (o x : Int) (o0 : 0 <= o) (o1 : o < 4294967296) (x0 : 0 <= x) (x1 : x < 4294967296) :
 Calls prog 277 #[.pointer (some ⟨p, 0, none⟩), .int .u32 o, .int .u32 x] w fun e w' => e = .returned (.int .i64 (oQ n o)) /\ bG w' p g n q (nC n t o x) /\ aD (own n q) w w' := by
 unfold nC oQ
 by_cases hE : eH n o = 0
 . rw [if_pos hE]
   obtain ⟨_, _, hk⟩ := iC o0 hE
   have hok := h.rm.ok _ hk
   have C := aBi (t (o / 32).toNat) (o % 32) x (q (o / 32).toNat) w hok (h.rm.tms _ hk) (by omega) (by omega) x0 x1
   have F := aAj h o o0 o1 hE
   have hso : (if eM (o % 32) = 0 then (t (o / 32).toNat).sto (o % 32) x else t (o / 32).toNat).ok := by
    split
    . exact Tm.sto_ok hok _ _ x0 x1
    . exact hok
   have hcg : ∀ i, i < n -> kQ t (o / 32).toNat (if eM (o % 32) = 0 then (t (o / 32).toNat).sto (o % 32) x else t (o / 32).toNat) i = (if eM (o % 32) = 0 then kQ t (o / 32).toNat ((t (o / 32).toNat).sto (o % 32) x) else t) i := by
    intro i _
    by_cases hs : eM (o % 32) = 0
    . rw [if_pos hs, if_pos hs]
    . rw [if_neg hs, if_neg hs]
      by_cases e : i = (o / 32).toNat
      . subst e; exact iX _ _ _
      . exact iY _ _ e
   have H := Hd h
   have HC := Hd hcg
   have HS := Hd hso
   clear hcg hso hok h hE
   have HT := fun (w' : World) (S : Tm) (ho : aD (· = q (o / 32).toNat) w w') (a : dT w' (q (o / 32).toNat) tC S) (os : S.ok) => (H.out.turn hk a os ho)
   have HO := fun (w' : World) (ho : aD (· = q (o / 32).toNat) w w') => ho.own hk
   have HT := Hd HT
   have HO := Hd HO
   generalize hS : (if eM (o % 32) = 0 then (t (o / 32).toNat).sto (o % 32) x else t (o / 32).toNat) = S at *
   generalize hT : (if eM (o % 32) = 0 then kQ t (o / 32).toNat ((t (o / 32).toNat).sto (o % 32) x) else t) = T at *
   clear hS hT H
   generalize eM (o % 32) = E at *
   generalize (o / 32).toNat = r at *
   generalize o % 32 = s at *
   go_enter func277, ntmps277
   go_wp2_with fail
   refine F.mono ?_
   rintro e w1 ⟨rfl, rfl⟩
   go_wp2_with fail
   refine C.mono ?_
   rintro e w1 ⟨rfl, a, ho⟩
   go_wp2_with fail
   go_ret
   exact ⟨rfl, (HT.out _ _ ho a HS.out).congr HC.out, HO.out _ ho⟩
 . rw [if_neg hE, if_neg hE]
   have F := rK h o _ o0 o1 rfl hE
   have hn : (eH n o == 0) = false := by simpa using hE
   have hn2 : (eH n o != 0) = true := by simpa using hE
   generalize eH n o = E at *
   clear hE
   have H := Hd h
   clear h
   go_enter func277, ntmps277
   go_wp2_with fail
   refine F.mono ?_
   rintro e w1 ⟨rfl, rfl⟩
   go_wp2_with fail
   go_ret
   exact ⟨rfl, H.out, aD.refl _ _⟩
end
end Go.Proofs.YtaohacadochldaaGreat.B
