/- Several texts in one: Layer 7 (bank) in plain numbers: words of timers' truths, the least left and whose it is. A bank's blocks: the bank, its .. -/
import Derived.Test.YtpojmmgokgamgaaGreatZVae
import Derived.Deep.Cut
set_option linter.unusedVariables false
set_option linter.unusedSimpArgs false
namespace Go.Proofs.YtpojmmgokgamgaaGreat.B
open Go.ChangeShapes Go.WideShapes Go.RowKit Go.Sort
theorem or_un (f : Nat -> Bool) (k : Nat) (h : k < 32) : bits BinOp.or IntKind.u32 (ob f k) (un k) = ob f k + un k := by
 have h1 := ob_bounds f k (by omega)
 have h2 := un_bounds k
 rw [or_nat _ _ h1.1 h1.2 h2.1 h2.2, un_pow k h]
 unfold ob
 rw [Int.toNat_natCast, Int.toNat_natCast, Nat.or_comm]
 have := Nat.two_pow_add_eq_or_of_lt (ofBits_lt f k) 1
 rw [Nat.mul_one] at this
 rw [<- this]
 omega
theorem ob_congr (f g : Nat -> Bool) : ∀ k : Nat, (∀ i, i < k -> f i = g i) -> ob f k = ob g k := by
 intro k
 induction k with
 | zero => intro _; rfl
 | succ k ih =>
   intro h
   have h1 := ih fun i hi => h i (by omega)
   have h2 := h k (by omega)
   unfold ob at h1 ⊢
   unfold ofBits
   rw [h2]
   have h3 : ofBits f k = ofBits g k := by omega
   rw [h3]
def nvr : Int := 18446744073709551615
def Best (t : Nat -> Tm) (a b : Nat) (m i : Int) : Prop :=
 (i = -1 /\ m = nvr /\ ∀ k, a <= k -> k < b -> (t k).en = false) \/
 ∃ j : Nat, i = j /\ a <= j /\ j < b /\ (t j).en = true /\ m = (t j).left /\ ∀ k, a <= k -> k < b -> (t k).en = true -> m <= (t k).left /\ (k < j -> m < (t k).left)
theorem Best.bounds {t : Nat -> Tm} {a b : Nat} {m i : Int} (h : Best t a b m i) (ok : ∀ k, k < b -> (t k).ok) : 1 <= m /\ m <= nvr := by
 unfold nvr
 rcases h with ⟨_, rfl, _⟩ | ⟨j, _, _, hj, _, rfl, _⟩
 . unfold nvr; omega
 . have := (ok j hj).left; omega
theorem Best.congr {t s : Nat -> Tm} {a b : Nat} {m i : Int} (h : Best t a b m i) (hs : ∀ k, a <= k -> k < b -> t k = s k) : Best s a b m i := by
 rcases h with ⟨rfl, rfl, h⟩ | ⟨j, rfl, a1, b1, e1, rfl, h⟩
 . exact .inl ⟨rfl, rfl, fun k h1 h2 => by rw [<- hs k h1 h2]; exact h k h1 h2⟩
 . refine .inr ⟨j, rfl, a1, b1, by rw [<- hs j a1 b1]; exact e1, by rw [hs j a1 b1], fun k h1 h2 e => ?_⟩
   rw [<- hs k h1 h2] at e ⊢
   exact h k h1 h2 e
theorem Best.take {t : Nat -> Tm} {k : Nat} {m i : Int} (h : Best t 0 k m i) (hok : ∀ q, q < k -> (t q).ok) (ok : (t k).ok) (hl : (t k).lef < m) : Best t 0 (k + 1) (t k).lef k := by
 have hm := (h.bounds hok).2
 have he : (t k).en = true := by
  cases he : (t k).en
  . unfold Tm.lef at hl
    rw [he] at hl
    unfold nvr at hm
    simp at hl
    omega
  . rfl
 have hlf : (t k).lef = (t k).left := by unfold Tm.lef; rw [if_pos he]
 rw [hlf] at hl ⊢
 refine .inr ⟨k, rfl, by omega, by omega, he, rfl, fun q h1 h2 e => ?_⟩
 by_cases hq : q = k
 . subst hq; exact ⟨Int.le_refl _, fun hj => by omega⟩
 . rcases h with ⟨rfl, rfl, h⟩ | ⟨j, rfl, a1, b1, e1, rfl, h⟩
   . rw [h q h1 (by omega)] at e; cases e
   . have := h q h1 (by omega) e
     exact ⟨by omega, fun _ => by omega⟩
theorem Best.keep {t : Nat -> Tm} {k n : Nat} {m i : Int} (h : Best t (k + 1) n m i) (ok : (t k).ok) (hl : ((t k).en = true -> m < (t k).left)) : Best t k n m i := by
 rcases h with ⟨rfl, rfl, h⟩ | ⟨j, rfl, a1, b1, e1, rfl, h⟩
 . refine .inl ⟨rfl, rfl, fun q h1 h2 => ?_⟩
   by_cases hq : q = k
   . subst hq
     cases he : (t q).en
     . rfl
     . have := hl he
       have := ok.left
       unfold nvr at *
       omega
   . exact h q (by omega) h2
 . refine .inr ⟨j, rfl, by omega, b1, e1, rfl, fun q h1 h2 e => ?_⟩
   by_cases hq : q = k
   . subst hq; have := hl e; exact ⟨by omega, fun _ => this⟩
   . exact h q (by omega) h2 e
theorem Best.put {t : Nat -> Tm} {k n : Nat} {m i : Int} (h : Best t (k + 1) n m i) (hk : k < n) (he : (t k).en = true) (hl : (t k).left <= m) : Best t k n (t k).left k := by
 refine .inr ⟨k, rfl, Nat.le_refl _, hk, he, rfl, fun q h1 h2 e => ?_⟩
 by_cases hq : q = k
 . subst hq; exact ⟨Int.le_refl _, fun hj => by omega⟩
 . rcases h with ⟨rfl, rfl, h⟩ | ⟨j, rfl, a1, b1, e1, rfl, h⟩
   . rw [h q (by omega) h2] at e; cases e
   . have := h q (by omega) h2 e
     exact ⟨by omega, fun hj => by omega⟩
def upd1 (t : Nat -> Tm) (i : Nat) (s : Tm) : Nat -> Tm := fun k => if k = i then s else t k
theorem upd1_at (t : Nat -> Tm) (i : Nat) (s : Tm) : upd1 t i s i = s := if_pos rfl
theorem upd1_ne (t : Nat -> Tm) {i k : Nat} (s : Tm) (h : k ≠ i) : upd1 t i s k = t k := if_neg h
def kErr (n : Nat) (o : Int) : Int := if (o % 4 != 0) = true then 11 else if (n : Int) <= o / 32 then 10 else 0
abbrev tBk : TypeId := 172
abbrev tRm : TypeId := 251
def ptr (k : Nat) : Value := .pointer (some ⟨k, 0, none⟩)
def rm (n : Nat) (q : Nat -> Nat) : List Value := (List.range 8).map fun i => if i < n then ptr (q i) else .pointer none
theorem rm_len (n : Nat) (q : Nat -> Nat) : (rm n q).length = 8 := by simp [rm]
theorem rm_get (n : Nat) (q : Nat -> Nat) (i : Nat) (h : i < n) (h8 : n <= 8) : (rm n q)[i]? = some (ptr (q i)) := by simp [rm, show i < 8 by omega, h]
theorem rm_set (n : Nat) (q : Nat -> Nat) (r : Nat) (h : n < 8) : (rm n q).set n (ptr r) = rm (n + 1) (fun i => if i = n then r else q i) := by
 apply List.ext_getElem?
 intro i
 rw [List.getElem?_set]
 by_cases e : n = i
 . subst e
   rw [if_pos rfl, if_pos (by rw [rm_len]; exact h), rm_get _ _ _ (by omega) (by omega)]
   simp
 . rw [if_neg e]
   by_cases h8 : i < 8
   . unfold rm
     simp only [List.getElem?_map, List.getElem?_range h8, Option.map_some]
     by_cases hi : i < n
     . rw [if_pos hi, if_pos (by omega), if_neg (fun x => e x.symm)]
     . rw [if_neg hi, if_neg (by omega)]
   . rw [List.getElem?_eq_none (by rw [rm_len]; omega), List.getElem?_eq_none (by rw [rm_len]; omega)]
structure RmAt (w : World) (g n : Nat) (q : Nat -> Nat) (t : Nat -> Tm) : Prop where
 room : w.heap[g]? = some (.cells (rm n q).toArray tRm (0, 0))
 tms : ∀ i, i < n -> TAt w (q i) tC (t i)
 ok : ∀ i, i < n -> (t i).ok
 one : ∀ i j, i < n -> j < n -> q i = q j -> i = j
 n8 : n <= 8
structure BkAt (w : World) (p g n : Nat) (q : Nat -> Nat) (t : Nat -> Tm) : Prop where
 cell : w.heap[p]? = some (.cells #[.slice (some ⟨g, 0, none⟩) n n] tBk (0, 0))
 rm : RmAt w g n q t
def own (n : Nat) (q : Nat -> Nat) (k : Nat) : Prop := ∃ i, i < n /\ k = q i
section
variable {w w' : World} {p g n : Nat} {q : Nat -> Nat} {t s : Nat -> Tm}
theorem RmAt.lt (h : RmAt w g n q t) : g < w.heap.size := lt_of_block h.room
theorem RmAt.ltq (h : RmAt w g n q t) {i : Nat} (hi : i < n) : q i < w.heap.size := (h.tms i hi).lt
theorem RmAt.gne (h : RmAt w g n q t) {i : Nat} (hi : i < n) : q i ≠ g := apart_types (h.tms i hi) h.room rfl
theorem RmAt.below (h : RmAt w g n q t) (hb : Below w.heap.size w w') : RmAt w' g n q t :=
 ⟨blk_below hb h.room h.lt, fun i hi => (h.tms i hi).below hb, h.ok, h.one, h.n8⟩
theorem RmAt.off {S : Nat -> Prop} (h : RmAt w g n q t) (ho : Off S w w') (hg : ¬ S g) (hq : ∀ i, i < n -> ¬ S (q i)) : RmAt w' g n q t :=
 ⟨ho.at h.room hg, fun i hi => (h.tms i hi).off ho (hq i hi), h.ok, h.one, h.n8⟩
theorem RmAt.congr (h : RmAt w g n q t) (hs : ∀ i, i < n -> t i = s i) : RmAt w g n q s :=
 ⟨h.room, fun i hi => by rw [<- hs i hi]; exact h.tms i hi, fun i hi => by rw [<- hs i hi]; exact h.ok i hi, h.one, h.n8⟩
theorem RmAt.turn (h : RmAt w g n q t) {i : Nat} {x : Tm} (hi : i < n) (a : TAt w' (q i) tC x) (ox : x.ok) (ho : Off (· = q i) w w') : RmAt w' g n q (upd1 t i x) :=
 ⟨ho.at h.room (fun e => h.gne hi e.symm), fun k hk => by
  by_cases e : k = i
  . subst e; rw [upd1_at]; exact a
  . rw [upd1_ne _ _ e]; exact (h.tms k hk).off ho (fun e2 => e (h.one k i hk hi e2)), fun k hk => by
  by_cases e : k = i
  . subst e; rw [upd1_at]; exact ox
  . rw [upd1_ne _ _ e]; exact h.ok k hk, h.one, h.n8⟩
theorem RmAt.cell (h : RmAt w g n q t) {i : Nat} (hi : i < n) : w.cell? ⟨g, i, none⟩ = some (.pointer (some ⟨q i, 0, none⟩)) := by
 rw [blk_cell h.room i]
 simpa [ptr] using rm_get n q i hi h.n8
theorem BkAt.ltp (h : BkAt w p g n q t) : p < w.heap.size := lt_of_block h.cell
theorem BkAt.c0 (h : BkAt w p g n q t) : w.cell? ⟨p, 0, none⟩ = some (.slice (some ⟨g, 0, none⟩) n n) := by rw [blk_cell h.cell 0]; rfl
theorem BkAt.pne (h : BkAt w p g n q t) {i : Nat} (hi : i < n) : q i ≠ p := apart_types (h.rm.tms i hi) h.cell rfl
theorem BkAt.below (h : BkAt w p g n q t) (hb : Below w.heap.size w w') : BkAt w' p g n q t := ⟨blk_below hb h.cell h.ltp, h.rm.below hb⟩
theorem BkAt.off {S : Nat -> Prop} (h : BkAt w p g n q t) (ho : Off S w w') (hp : ¬ S p) (hg : ¬ S g) (hq : ∀ i, i < n -> ¬ S (q i)) : BkAt w' p g n q t := ⟨ho.at h.cell hp, h.rm.off ho hg hq⟩
theorem BkAt.congr (h : BkAt w p g n q t) (hs : ∀ i, i < n -> t i = s i) : BkAt w p g n q s := ⟨h.cell, h.rm.congr hs⟩
theorem BkAt.turn (h : BkAt w p g n q t) {i : Nat} {x : Tm} (hi : i < n) (a : TAt w' (q i) tC x) (ox : x.ok) (ho : Off (· = q i) w w') : BkAt w' p g n q (upd1 t i x) :=
 ⟨ho.at h.cell (fun e => h.pne hi e.symm), h.rm.turn hi a ox ho⟩
theorem BkAt.get (h : BkAt w p g n q t) {i : Nat} (hi : i < n) : w.cell? ⟨g, i, none⟩ = some (.pointer (some ⟨q i, 0, none⟩)) := h.rm.cell hi
theorem BkAt.free (h : BkAt w p g n q t) (j : Nat) : w.frozen? ⟨g, j, none⟩ = false := blk_free h.rm.room j
end
theorem Off.own {n : Nat} {q : Nat -> Nat} {i : Nat} (hi : i < n) {w w' : World} (h : Off (· = q i) w w') : Off (own n q) w w' := h.mono fun k _ e => ⟨i, hi, e⟩
theorem zW_T : Obj.cells #[.int .u32 0, .int .u32 0, .int .u32 0, .int .u32 0, .int .u64 0] 253 (0, 0) = .cells (wl tz).toArray 253 (0, 0) := rfl
set_option maxHeartbeats 1600000 in
set_option maxRecDepth 100000 in
theorem nTick (t : Tm) (n : Int) (p : Nat) (w : World) (h : t.ok) (a : TAt w p tC t) (n0 : 0 <= n) (n1 : n < 18446744073709551616) :
 Calls Tryz.prog 269 #[.pointer (some ⟨p, 0, none⟩), .int .u64 n] w fun e w' => e = .returned (.tuple #[]) /\ TAt w' p tC (t.tick n) /\ Off (· = p) w w' := by
 obtain ⟨R, hR⟩ : ∃ R, t.tick n = R := ⟨_, rfl⟩
 rw [hR]
 have HR := Hd hR
 clear hR
 go_enter Tryz.func269, Tryz.ntmps269
 go_wp2_with fail
 go_loopw [1] (fun x wr => ∃ (m : Int) (s : Tm), x = .int .u64 m /\ 0 <= m /\ m < 18446744073709551616 /\ s.ok /\ TAt wr p tC s /\ Off (· = p) w wr /\ Hid (s.tick m = R)) (fun x wr => (intOf x).toNat)
 case atStart => exact ⟨n, t, rfl, n0, n1, h, a, Off.refl _ _, HR⟩
 case round =>
  clear a h HR n0 n1
  obtain ⟨m, s, rfl, m0, m1, h, a, ho, HR⟩ := hrel
  have hL := h.left
  have RN := Hd (fun w a => nRuns s p w h a)
  cases hen : s.en
  . rw [hen] at RN
    go_wp2_with fail
    refine (RN.out _ a).mono ?_
    rintro e w1 ⟨rfl, hb⟩
    have a1 := a.below hb
    have ho1 := ho.trans (Off.ofBelow hb)
    clear a hb ho
    go_wp2_with fail
    refine (RN.out _ a1).mono ?_
    rintro e w2 ⟨rfl, hb⟩
    have a2 := a1.below hb
    have ho2 := ho1.trans (Off.ofBelow hb)
    clear a1 hb ho1
    go_wp2_with fail
    go_end0
    refine ⟨rfl, ?_, ho2⟩
    rw [<- HR.out, Tm.tick_off hen]; exact a2
  . rw [hen] at RN
    have LF := Hd (fun w => nLft s w h)
    go_wp2_with fail
    refine (RN.out _ a).mono ?_
    rintro e w1 ⟨rfl, hb⟩
    have a1 := a.below hb
    have ho1 := ho.trans (Off.ofBelow hb)
    clear a hb ho
    go_wp2_with (refine loadTg (.tmp 11) rfl rfl rfl a1 ?_)
    refine (LF.out _).mono ?_
    rintro e w2 ⟨rfl, hb⟩
    have a := a1.below hb
    have ho := ho1.trans (Off.ofBelow hb)
    clear a1 hb ho1
    by_cases hle : s.left <= m
    . go_wp2_with (refine loadT rfl (.tmp 19) rfl rfl a ?_)
      refine (LF.out _).mono ?_
      rintro e w1 ⟨rfl, hb⟩
      have a1 := a.below hb
      have ho1 := ho.trans (Off.ofBelow hb)
      clear a hb ho
      have HE := Hd (show s.exp.tick (m - s.left) = R by rw [<- Tm.tick_ge h hen hle]; exact HR.out)
      clear HR LF RN
      have zq : TAt (w1.alloc (.cells (wl tz).toArray 253 (0, 0))) w1.heap.size 253 tz := blk_new w1 (.cells (wl tz).toArray 253 (0, 0))
      have hpq : p ≠ w1.heap.size := by have := a1.lt; omega
      have aP := (a1.below (trA (tr0 w1) (.cells (wl tz).toArray 253 (0, 0)))).elseRow w1.heap.size (wl s).toArray hpq
      have aQ := TAt.row zq s
      have hq0 : w.heap.size <= w1.heap.size := ho1.size
      have hoP : Off (· = p) w ((w1.alloc (.cells (wl tz).toArray 253 (0, 0))).setRow w1.heap.size (wl s).toArray) :=
       ho1.trans (Off.ofBelow (below_setRow (trA (tr0 w1) _) _ (Nat.le_refl _)))
      go_upto_region 3 with (first | (refine loadT rfl (.tmp 25) rfl rfl a1 ?_) | (refine storeT rfl (.tmp 4) (.tmp 26) rfl rfl rfl zq ?_))
      rw [zW_T]
      clear a1 zq ho1
      generalize ((w1.alloc (.cells (wl tz).toArray 253 (0, 0))).setRow w1.heap.size (wl s).toArray) = W2 at *
      generalize w1.heap.size = q at *
      go_wp2_with (refine loadT rfl (.tmp 30) rfl rfl aP ?_)
      refine (nExp s _ h).mono ?_
      rintro e W3 ⟨rfl, hb⟩
      have aP1 := aP.below hb
      have aQ1 := aQ.below hb
      have ho1 := hoP.trans (Off.ofBelow hb)
      clear aP aQ hoP hb
      have aP := TAt.row aP1 s.exp
      have aQ := aQ1.elseRow p (wl s.exp).toArray (fun e => hpq e.symm)
      have ho := ho1.trans (off_row W3 p (wl s.exp).toArray)
      go_upto_region 4 with (refine storeT rfl (.tmp 34) (.tmp 32) rfl rfl rfl aP1 ?_)
      clear aP1 aQ1 ho1
      generalize W3.setRow p (wl s.exp).toArray = W4 at *
      have hE := Tm.exp_ok h
      have hEL := hE.left
      cases hq : eqT s.exp s
      . go_simp
        refine wp_region_quiet_below (by kernel_rfl) (by kernel_rfl) ?_
        repeat (first
         | go_big_quiet_skip
         | (go_big_quiet_want; first
             | (refine qloadT (.tmp 37) rfl rfl aP.grown ?_; go_simp; go_big_quiet_on)
             | (refine qloadT (.tmp 4) rfl rfl aQ.grown ?_; go_simp; go_big_quiet_on)
             | (refine qeqT (.tmp 38) (.tmp 39) _ rfl rfl rfl ?_; go_simp; go_big_quiet_on)
             | (go_big_quiet_op; first | go_big_quiet_on)))
        refine wpQuiet_nil ?_
        intro _ hw'
        obtain ⟨⟨dq, osq⟩, hw''⟩ := hw'
        subst hw''
        have hbr := below_regrown W4 dq osq
        go_wp2_with fail
        go_roundw
        case rel => exact ⟨m - s.left, s.exp, rfl, by omega, by omega, hE, aP.below hbr, ho.trans (Off.ofBelow hbr), HE⟩
        case measure => simp [intOf]; omega
      . have hs := eqT_exp hen hq
        have hm := mod_bounds (a := m - s.left) (u := s.exp.left) (by omega)
        have hm2 : (m - s.left) % s.exp.left <= m - s.left := by
         by_cases c : m - s.left < s.exp.left
         . rw [Int.emod_eq_of_lt (by omega) c]; omega
         . omega
        have HE2 := Hd (show s.exp.tick ((m - s.left) % s.exp.left) = R by rw [<- HE.out]; exact (Tm.tick_mod hE (by rw [hs]; exact hen) (by rw [hs]; exact hs) _ (by omega)).symm)
        have LF := Hd (fun w => nLft s.exp w hE)
        clear hs
        go_simp
        refine wp_region_quiet_below (by kernel_rfl) (by kernel_rfl) ?_
        repeat (first
         | go_big_quiet_skip
         | (go_big_quiet_want; first
             | (refine qloadT (.tmp 37) rfl rfl aP.grown ?_; go_simp; go_big_quiet_on)
             | (refine qloadT (.tmp 4) rfl rfl aQ.grown ?_; go_simp; go_big_quiet_on)
             | (refine qeqT (.tmp 38) (.tmp 39) _ rfl rfl rfl ?_; go_simp; go_big_quiet_on)
             | (go_big_quiet_op; first | go_big_quiet_on)))
        refine wpQuiet_nil ?_
        intro _ hw'
        obtain ⟨⟨dq, osq⟩, hw''⟩ := hw'
        subst hw''
        have hbr := below_regrown W4 dq osq
        have a1 := aP.below hbr
        have ho1 := ho.trans (Off.ofBelow hbr)
        clear aP aQ ho hbr HE
        go_wp2_with (refine loadT rfl (.tmp 44) rfl rfl a1 ?_)
        refine (LF.out _).mono ?_
        rintro e W5 ⟨rfl, hb⟩
        have a := a1.below hb
        have ho := ho1.trans (Off.ofBelow hb)
        clear a1 ho1 hb
        go_wp2_with fail
        go_roundw
        case rel => exact ⟨(m - s.left) % s.exp.left, s.exp, rfl, hm.1, by omega, hE, a, ho, HE2⟩
        case measure => simp [intOf]; omega
    . go_wp2_with fail
      refine (RN.out _ a).mono ?_
      rintro e w1 ⟨rfl, hb⟩
      have a1 := a.below hb
      have ho1 := ho.trans (Off.ofBelow hb)
      clear a hb ho
      go_wp2_with (refine loadT rfl (.tmp 53) rfl rfl a1 ?_)
      refine (nLat s m _ h m0 (by omega)).mono ?_
      rintro e w2 ⟨rfl, hb⟩
      have a := a1.below hb
      have ho := ho1.trans (Off.ofBelow hb)
      clear a1 hb ho1
      go_wp2_with (refine storeT rfl (.tmp 58) (.tmp 56) rfl rfl rfl a ?_)
      go_end0
      refine ⟨rfl, ?_, ho.trans (off_row _ _ _)⟩
      rw [<- HR.out, Tm.tick_lt hen (by omega)]; exact TAt.row a _
theorem upd_step (t : Nat -> Tm) (f : Tm -> Tm) (k i : Nat) : upd1 (fun i => if i < k then f (t i) else t i) k (f (t k)) i = if i < k + 1 then f (t i) else t i := by
 by_cases e : i = k
 . subst e; rw [upd1_at, if_pos (by omega)]
 . rw [upd1_ne _ _ e]
   by_cases c : i < k
   . rw [if_pos (show i < k + 1 by omega)]; exact if_pos c
   . rw [if_neg (show ¬ i < k + 1 by omega)]; exact if_neg c
section
variable {p g n : Nat} {q : Nat -> Nat} {t : Nat -> Tm} {w : World}
theorem bAll (h : BkAt w p g n q t) : Calls Tryz.prog 193 #[.pointer (some ⟨p, 0, none⟩)] w fun e w' => e = .returned (.slice (some ⟨g, 0, none⟩) n n) /\ w = w' := by
 have c0 := h.c0
 clear h
 go_enter Tryz.func193, Tryz.ntmps193
 go_wp2_with fail
 go_ret
 exact ⟨rfl, rfl⟩
theorem bLen (h : BkAt w p g n q t) : Calls Tryz.prog 140 #[.pointer (some ⟨p, 0, none⟩)] w fun e w' => e = .returned (.int .i64 n) /\ w = w' := by
 go_enter Tryz.func140, Tryz.ntmps140
 go_wp2_with fail
 refine (bAll h).mono ?_
 rintro e w1 ⟨rfl, rfl⟩
 go_wp2_with fail
 go_ret
 exact ⟨rfl, rfl⟩
theorem bTick (h : BkAt w p g n q t) (N : Int) (n0 : 0 <= N) (n1 : N < 18446744073709551616) :
 Calls Tryz.prog 265 #[.pointer (some ⟨p, 0, none⟩), .int .u64 N] w fun e w' => e = .returned (.tuple #[]) /\ BkAt w' p g n q (fun i => (t i).tick N) /\ Off (own n q) w w' := by
 have n8 := h.rm.n8
 go_enter Tryz.func265, Tryz.ntmps265
 go_wp2_with fail
 refine (bAll h).mono ?_
 rintro e w1 ⟨rfl, rfl⟩
 go_wp2_with fail
 go_loopw [9] (fun i wr => ∃ k : Nat, k <= n /\ i = .int .i64 k /\ BkAt wr p g n q (fun i => if i < k then (t i).tick N else t i) /\ Off (own n q) w wr) (fun i wr => n - (intOf i).toNat)
 case atStart => exact ⟨0, by omega, rfl, h.congr (fun i _ => by simp), Off.refl _ _⟩
 case round =>
  obtain ⟨k, hk, rfl, H, ho⟩ := hrel
  by_cases hlt : k < n
  . have hc := H.get hlt
    have ht := H.rm.tms k hlt
    have ok := H.rm.ok k hlt
    simp only [Nat.lt_irrefl, if_false] at ht ok
    have HH := Hd H
    have HO := Hd ho
    clear H ho h
    go_wp2_with fail
    refine (nTick (t k) N (q k) wr ok ht n0 n1).mono ?_
    rintro e w2 ⟨rfl, a2, ho2⟩
    have H2 := (HH.out.turn hlt a2 (Tm.tick_ok ok n0) ho2).congr (s := fun i => if i < k + 1 then (t i).tick N else t i) (fun i _ => upd_step t (fun x => x.tick N) k i)
    have HO2 := HO.out.trans (ho2.own hlt)
    clear HH HO ho2 a2 ht ok hc
    go_wp2_with fail
    go_roundw
    case rel => exact ⟨k + 1, by omega, by go_num, H2, HO2⟩
    case measure => simp [intOf]; omega
  . obtain rfl : k = n := by omega
    go_wp2_with fail
    go_end0
    exact ⟨rfl, H.congr (fun i hi => if_pos hi), ho⟩
theorem bReset (h : BkAt w p g n q t) :
 Calls Tryz.prog 263 #[.pointer (some ⟨p, 0, none⟩)] w fun e w' => e = .returned (.tuple #[]) /\ BkAt w' p g n q (fun i => tz) /\ Off (own n q) w w' := by
 have n8 := h.rm.n8
 go_enter Tryz.func263, Tryz.ntmps263
 go_wp2_with fail
 refine (bAll h).mono ?_
 rintro e w1 ⟨rfl, rfl⟩
 go_wp2_with fail
 go_loopw [7] (fun i wr => ∃ k : Nat, k <= n /\ i = .int .i64 k /\ BkAt wr p g n q (fun i => if i < k then tz else t i) /\ Off (own n q) w wr) (fun i wr => n - (intOf i).toNat)
 case atStart => exact ⟨0, by omega, rfl, h.congr (fun i _ => by simp), Off.refl _ _⟩
 case round =>
  obtain ⟨k, hk, rfl, H, ho⟩ := hrel
  by_cases hlt : k < n
  . have hc := H.get hlt
    have ht := H.rm.tms k hlt
    simp only [Nat.lt_irrefl, if_false] at ht
    have HH := Hd H
    have HO := Hd ho
    clear H ho h
    go_wp2_with fail
    refine (nReset (t k) (q k) wr ht).mono ?_
    rintro e w2 ⟨rfl, rfl⟩
    have ho2 := off_row wr (q k) (wl tz).toArray
    have H2 := (HH.out.turn hlt (TAt.row ht tz) tz_ok ho2).congr (s := fun i => if i < k + 1 then tz else t i) (fun i _ => upd_step t (fun _ => tz) k i)
    have HO2 := HO.out.trans (ho2.own hlt)
    clear HH HO ho2 ht hc
    generalize wr.setRow (q k) (wl tz).toArray = W2 at *
    go_wp2_with fail
    go_roundw
    case rel => exact ⟨k + 1, by omega, by go_num, H2, HO2⟩
    case measure => simp [intOf]; omega
  . obtain rfl : k = n := by omega
    go_wp2_with fail
    go_end0
    exact ⟨rfl, H.congr (fun i hi => if_pos hi), ho⟩
theorem bAskLine (h : BkAt w p g n q t) :
 Calls Tryz.prog 182 #[.pointer (some ⟨p, 0, none⟩), .func (.func 183) #[] #[]] w fun e w' => e = .returned (.int .u32 (ob (fun i => (t i).st && (t i).iq) n)) /\ Below w.heap.size w w' := by
 have n8 := h.rm.n8
 go_enter Tryz.func182, Tryz.ntmps182
 go_wp2_with fail
 refine (bAll h).mono ?_
 rintro e w1 ⟨rfl, rfl⟩
 go_wp2_with fail
 go_loopw [5, 11] (fun a i wr => ∃ (k : Nat) (X : Int), k <= n /\ i = .int .i64 k /\ a = .int .u32 X /\ 0 <= X /\ X < 4294967296 /\ Hid (X = ob (fun i => (t i).st && (t i).iq) k) /\ BkAt wr p g n q t /\ Below w.heap.size w wr) (fun a i wr => n - (intOf i).toNat)
 case atStart => exact ⟨0, 0, by omega, rfl, rfl, by omega, by omega, Hd rfl, h, tr0 w⟩
 case round =>
  clear h
  obtain ⟨k, X, hk, rfl, rfl, X0, X1, hX, H, hB⟩ := hrel
  by_cases hlt : k < n
  . have hc := H.get hlt
    have ht := H.rm.tms k hlt
    have ok := H.rm.ok k hlt
    have HH := Hd H
    have ho := or_un (fun i => (t i).st && (t i).iq) k (by omega)
    have hbd := ob_bounds (fun i => (t i).st && (t i).iq) (k + 1) (by omega)
    have hun := un_bounds k
    rw [<- hX.out] at ho
    have hy := ob_yes (fun i => (t i).st && (t i).iq) k (by omega)
    have hno := ob_no (fun i => (t i).st && (t i).iq) k
    obtain ⟨f, hf⟩ : ∃ f, ((t k).st && (t k).iq) = f := ⟨_, rfl⟩
    have C := nLine (t k) (q k) wr ok ht
    rw [hf] at C
    rw [hf] at hy hno
    have HY := Hd hy
    have HN := Hd hno
    have HB := Hd hbd
    clear H hf hy hno hbd
    cases f
    . go_wp2_with fail
      refine C.mono ?_
      rintro e w2 ⟨rfl, hb⟩
      have H2 := HH.out.below hb
      have hB2 := tr hB hb
      clear HH hc ht hb ho hun C
      go_wp2_with fail
      go_roundw
      case rel => exact ⟨k + 1, X, by omega, by go_num, rfl, X0, X1, Hd (by rw [HN.out (by simp)]; exact hX.out), H2, hB2⟩
      case measure => simp [intOf]; omega
    . have HO := Hd ho
      clear ho
      go_wp2_with fail
      refine C.mono ?_
      rintro e w2 ⟨rfl, hb⟩
      have H2 := HH.out.below hb
      have hB2 := tr hB hb
      clear HH hc ht hb C
      go_wp2_with fail
      go_roundw
      case rel => exact ⟨k + 1, ob (fun i => (t i).st && (t i).iq) (k + 1), by omega, by go_num, by rw [HY.out (by simp), <- hX.out, <- HO.out]; rfl, HB.out.1, HB.out.2, Hd rfl, H2, hB2⟩
      case measure => simp [intOf]; omega
  . obtain rfl : k = n := by omega
    go_wp2_with fail
    go_ret
    exact ⟨ret_int hX.out, hB⟩
theorem bLines (h : BkAt w p g n q t) :
 Calls Tryz.prog 117 #[.pointer (some ⟨p, 0, none⟩)] w fun e w' => e = .returned (.int .u32 (ob (fun i => (t i).st && (t i).iq) n)) /\ Below w.heap.size w w' := by
 go_enter Tryz.func117, Tryz.ntmps117
 go_wp2_with fail
 refine (bAskLine h).mono ?_
 rintro e w1 ⟨rfl, hb⟩
 go_wp2_with fail
 go_ret
 exact ⟨rfl, hb⟩
end
section
variable {p g n : Nat} {q : Nat -> Nat} {t : Nat -> Tm} {w : World}
theorem bFindNo (h : BkAt w p g n q t) (o E : Int) (o0 : 0 <= o) (o1 : o < 4294967296) (hE : kErr n o = E) (hne : E ≠ 0) :
 Calls Tryz.prog 266 #[.pointer (some ⟨p, 0, none⟩), .int .u32 o] w fun e w' => e = .returned (.tuple #[.pointer none, .int .u32 0, .int .i64 E]) /\ w = w' := by
 have n8 := h.rm.n8
 have H := Hd h
 clear h
 unfold kErr at hE
 cases h4 : (o % 4 != 0)
 . rw [h4, if_neg (by simp)] at hE
   by_cases hn : (n : Int) <= o / 32
   . rw [if_pos hn] at hE
     subst hE
     clear hne
     go_enter Tryz.func266, Tryz.ntmps266
     go_wp2_with fail
     refine (bLen H.out).mono ?_
     rintro e w1 ⟨rfl, rfl⟩
     go_wp2_with fail
     refine bodyPost_ret (v := .tuple #[.pointer none, .int .u32 0, .int .i64 10]) ?_ rfl ⟨rfl, rfl⟩
     simp [results, Tryz.results266, go_sem]
   . rw [if_neg hn] at hE
     exact absurd hE.symm hne
 . rw [h4, if_pos rfl] at hE
   subst hE
   clear hne
   go_enter Tryz.func266, Tryz.ntmps266
   go_wp2_with fail
   refine bodyPost_ret (v := .tuple #[.pointer none, .int .u32 0, .int .i64 11]) ?_ rfl ⟨rfl, rfl⟩
   simp [results, Tryz.results266, go_sem]
theorem kErr_zero {n : Nat} {o : Int} (o0 : 0 <= o) (h : kErr n o = 0) : (o % 4 != 0) = false /\ o / 32 < n /\ (o / 32).toNat < n := by
 unfold kErr at h
 cases h4 : (o % 4 != 0)
 . rw [h4, if_neg (by simp)] at h
   by_cases hn : (n : Int) <= o / 32
   . rw [if_pos hn] at h; omega
   . exact ⟨rfl, by omega, by omega⟩
 . rw [h4, if_pos rfl] at h; omega
theorem bFind (h : BkAt w p g n q t) (o : Int) (o0 : 0 <= o) (o1 : o < 4294967296) (hE : kErr n o = 0) :
 Calls Tryz.prog 266 #[.pointer (some ⟨p, 0, none⟩), .int .u32 o] w fun e w' => e = .returned (.tuple #[.pointer (some ⟨q (o / 32).toNat, 0, none⟩), .int .u32 (o % 32), .int .i64 0]) /\ w = w' := by
 obtain ⟨h4, hn, hk⟩ := kErr_zero o0 hE
 have n8 := h.rm.n8
 have c0 := h.c0
 have hc := h.get hk
 have H := Hd h
 clear h hE
 go_enter Tryz.func266, Tryz.ntmps266
 go_wp2_with fail
 refine (bLen H.out).mono ?_
 rintro e w1 ⟨rfl, rfl⟩
 go_wp2_with fail
 refine bodyPost_ret (v := .tuple #[.pointer (some ⟨q (o / 32).toNat, 0, none⟩), .int .u32 (o % 32), .int .i64 0]) ?_ rfl ⟨rfl, rfl⟩
 simp [results, Tryz.results266, go_sem]
end
def kLErr (n : Nat) (o : Int) : Int := if kErr n o = 0 then nErr (o % 32) else kErr n o
def kVal (n : Nat) (t : Nat -> Tm) (o : Int) : Int := if kErr n o = 0 then (t (o / 32).toNat).val (o % 32) else 0
def kSErr (n : Nat) (o : Int) : Int := if kErr n o = 0 then nSErr (o % 32) else kErr n o
def kSto (n : Nat) (t : Nat -> Tm) (o x : Int) : Nat -> Tm := if kSErr n o = 0 then upd1 t (o / 32).toNat ((t (o / 32).toNat).sto (o % 32) x) else t
section
variable {p g n : Nat} {q : Nat -> Nat} {t : Nat -> Tm} {w : World}
theorem bLoad (h : BkAt w p g n q t) (o : Int) (o0 : 0 <= o) (o1 : o < 4294967296) :
 Calls Tryz.prog 262 #[.pointer (some ⟨p, 0, none⟩), .int .u32 o] w fun e w' => e = .returned (.tuple #[.int .u32 (kVal n t o), .int .i64 (kLErr n o)]) /\ w = w' := by
 unfold kVal kLErr
 by_cases hE : kErr n o = 0
 . rw [if_pos hE, if_pos hE]
   obtain ⟨_, _, hk⟩ := kErr_zero o0 hE
   have C := nLoad (t (o / 32).toNat) (o % 32) (q (o / 32).toNat) w (h.rm.ok _ hk) (h.rm.tms _ hk) (by omega) (by omega)
   have F := bFind h o o0 o1 hE
   generalize (t (o / 32).toNat).val (o % 32) = V at *
   generalize nErr (o % 32) = E at *
   generalize q (o / 32).toNat = r at *
   generalize o % 32 = s at *
   clear h hE hk
   go_enter Tryz.func262, Tryz.ntmps262
   go_wp2_with fail
   refine F.mono ?_
   rintro e w1 ⟨rfl, rfl⟩
   go_wp2_with fail
   refine C.mono ?_
   rintro e w1 ⟨rfl, rfl⟩
   go_wp2_with fail
   go_ret2
   exact ⟨rfl, rfl⟩
 . rw [if_neg hE, if_neg hE]
   have F := bFindNo h o _ o0 o1 rfl hE
   have hn : (kErr n o == 0) = false := by simpa using hE
   have hn2 : (kErr n o != 0) = true := by simpa using hE
   generalize kErr n o = E at *
   clear h hE
   go_enter Tryz.func262, Tryz.ntmps262
   go_wp2_with fail
   refine F.mono ?_
   rintro e w1 ⟨rfl, rfl⟩
   go_wp2_with fail
   go_ret2
   exact ⟨rfl, rfl⟩
theorem bStore (h : BkAt w p g n q t) (o x : Int) (o0 : 0 <= o) (o1 : o < 4294967296) (x0 : 0 <= x) (x1 : x < 4294967296) :
 Calls Tryz.prog 264 #[.pointer (some ⟨p, 0, none⟩), .int .u32 o, .int .u32 x] w fun e w' => e = .returned (.int .i64 (kSErr n o)) /\ BkAt w' p g n q (kSto n t o x) /\ Off (own n q) w w' := by
 unfold kSto kSErr
 by_cases hE : kErr n o = 0
 . rw [if_pos hE]
   obtain ⟨_, _, hk⟩ := kErr_zero o0 hE
   have hok := h.rm.ok _ hk
   have C := nStore (t (o / 32).toNat) (o % 32) x (q (o / 32).toNat) w hok (h.rm.tms _ hk) (by omega) (by omega) x0 x1
   have F := bFind h o o0 o1 hE
   have hso : (if nSErr (o % 32) = 0 then (t (o / 32).toNat).sto (o % 32) x else t (o / 32).toNat).ok := by
    split
    . exact Tm.sto_ok hok _ _ x0 x1
    . exact hok
   have hcg : ∀ i, i < n -> upd1 t (o / 32).toNat (if nSErr (o % 32) = 0 then (t (o / 32).toNat).sto (o % 32) x else t (o / 32).toNat) i = (if nSErr (o % 32) = 0 then upd1 t (o / 32).toNat ((t (o / 32).toNat).sto (o % 32) x) else t) i := by
    intro i _
    by_cases hs : nSErr (o % 32) = 0
    . rw [if_pos hs, if_pos hs]
    . rw [if_neg hs, if_neg hs]
      by_cases e : i = (o / 32).toNat
      . subst e; exact upd1_at _ _ _
      . exact upd1_ne _ _ e
   have H := Hd h
   have HC := Hd hcg
   have HS := Hd hso
   clear hcg hso hok h hE
   have HT := fun (w' : World) (S : Tm) (ho : Off (· = q (o / 32).toNat) w w') (a : TAt w' (q (o / 32).toNat) tC S) (os : S.ok) => (H.out.turn hk a os ho)
   have HO := fun (w' : World) (ho : Off (· = q (o / 32).toNat) w w') => ho.own hk
   have HT := Hd HT
   have HO := Hd HO
   generalize hS : (if nSErr (o % 32) = 0 then (t (o / 32).toNat).sto (o % 32) x else t (o / 32).toNat) = S at *
   generalize hT : (if nSErr (o % 32) = 0 then upd1 t (o / 32).toNat ((t (o / 32).toNat).sto (o % 32) x) else t) = T at *
   clear hS hT H
   generalize nSErr (o % 32) = E at *
   generalize (o / 32).toNat = r at *
   generalize o % 32 = s at *
   go_enter Tryz.func264, Tryz.ntmps264
   go_wp2_with fail
   refine F.mono ?_
   rintro e w1 ⟨rfl, rfl⟩
   go_wp2_with fail
   refine C.mono ?_
   rintro e w1 ⟨rfl, a, ho⟩
   go_wp2_with fail
   go_ret
   exact ⟨rfl, (HT.out _ _ ho a HS.out).congr HC.out, HO.out _ ho⟩
 . rw [if_neg hE, if_neg hE]
   have F := bFindNo h o _ o0 o1 rfl hE
   have hn : (kErr n o == 0) = false := by simpa using hE
   have hn2 : (kErr n o != 0) = true := by simpa using hE
   generalize kErr n o = E at *
   clear hE
   have H := Hd h
   clear h
   go_enter Tryz.func264, Tryz.ntmps264
   go_wp2_with fail
   refine F.mono ?_
   rintro e w1 ⟨rfl, rfl⟩
   go_wp2_with fail
   go_ret
   exact ⟨rfl, H.out, Off.refl _ _⟩
end
end Go.Proofs.YtpojmmgokgamgaaGreat.B
