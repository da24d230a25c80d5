/- Several texts in one: A bank's blocks: the bank, its room of eight pointers, its timers. What a Count's Tick does. What a bank's methods return: all, Len, Tick, Reset, Lines, Runs, Left, Timer. What a bank's methods return: Left, Timer, find, Load, Store. -/
import Derived.Test.YtcgmnjajodegmaaGreatZNah
import Derived.Deep.Cut
namespace Go.Proofs.YtcgmnjajodegmaaGreat.B
set_option linter.unusedVariables false
set_option linter.unusedSimpArgs false
open Go.ChangeShapes Go.WideShapes Go.RowKit Go.Sort
abbrev tBk : TypeId := 204
abbrev tRm : TypeId := 252
def ptr (k : Nat) : Value := .pointer (some ⟨k, 0, none⟩)
/-- The room: pointers to the timers, nil behind them. -/
def rm (n : Nat) (q : Nat → Nat) : List Value := (List.range 8).map fun i => if i < n then ptr (q i) else .pointer none
theorem rm_len (n : Nat) (q : Nat → Nat) : (rm n q).length = 8 := by simp [rm]
theorem rm_get (n : Nat) (q : Nat → Nat) (i : Nat) (h : i < n) (h8 : n ≤ 8) : (rm n q)[i]? = some (ptr (q i)) := by simp [rm, show i < 8 by omega, h]
theorem rm_zero (q : Nat → Nat) : rm 0 q = [.pointer none, .pointer none, .pointer none, .pointer none, .pointer none, .pointer none, .pointer none, .pointer none] := rfl
theorem rm_set (n : Nat) (q : Nat → Nat) (r : Nat) (h : n < 8) : (rm n q).set n (ptr r) = rm (n + 1) (fun i => if i = n then r else q i) := by
  apply List.ext_getElem?
  intro i
  rw [List.getElem?_set]
  by_cases e : n = i
  · subst e
    rw [if_pos rfl, if_pos (by rw [rm_len]; exact h), rm_get _ _ _ (by omega) (by omega)]
    simp
  · rw [if_neg e]
    by_cases h8 : i < 8
    · unfold rm
      simp only [List.getElem?_map, List.getElem?_range h8, Option.map_some]
      by_cases hi : i < n
      · rw [if_pos hi, if_pos (by omega), if_neg (fun x => e x.symm)]
      · rw [if_neg hi, if_neg (by omega)]
    · rw [List.getElem?_eq_none (by rw [rm_len]; omega), List.getElem?_eq_none (by rw [rm_len]; omega)]
/-- Timers in a room. -/
structure RmAt (w : World) (g n : Nat) (q : Nat → Nat) (t : Nat → Tm) : Prop where
  room : w.heap[g]? = some (.cells (rm n q).toArray tRm (0, 0))
  tms : ∀ i, i < n → TAt w (q i) tC (t i)
  ok : ∀ i, i < n → (t i).ok
  one : ∀ i j, i < n → j < n → q i = q j → i = j
  n8 : n ≤ 8
/-- A bank. -/
structure BkAt (w : World) (p g n : Nat) (q : Nat → Nat) (t : Nat → Tm) : Prop where
  cell : w.heap[p]? = some (.cells #[.slice (some ⟨g, 0, none⟩) n n] tBk (0, 0))
  rm : RmAt w g n q t
/-- Blocks of the timers. -/
def own (n : Nat) (q : Nat → Nat) (k : Nat) : Prop := ∃ i, i < n ∧ k = q i
section
variable {w w' : World} {p g n : Nat} {q : Nat → Nat} {t s : Nat → Tm}
theorem RmAt.lt (h : RmAt w g n q t) : g < w.heap.size := lt_of_block h.room
theorem RmAt.ltq (h : RmAt w g n q t) {i : Nat} (hi : i < n) : q i < w.heap.size := (h.tms i hi).lt
theorem RmAt.gne (h : RmAt w g n q t) {i : Nat} (hi : i < n) : q i ≠ g := apart_types (h.tms i hi) h.room rfl
theorem RmAt.below (h : RmAt w g n q t) (hb : Below w.heap.size w w') : RmAt w' g n q t :=
  ⟨blk_below hb h.room h.lt, fun i hi => (h.tms i hi).below hb, h.ok, h.one, h.n8⟩
theorem RmAt.off {S : Nat → Prop} (h : RmAt w g n q t) (ho : Off S w w') (hg : ¬ S g) (hq : ∀ i, i < n → ¬ S (q i)) : RmAt w' g n q t :=
  ⟨ho.at h.room hg, fun i hi => (h.tms i hi).off ho (hq i hi), h.ok, h.one, h.n8⟩
theorem RmAt.congr (h : RmAt w g n q t) (hs : ∀ i, i < n → t i = s i) : RmAt w g n q s :=
  ⟨h.room, fun i hi => by rw [← hs i hi]; exact h.tms i hi, fun i hi => by rw [← hs i hi]; exact h.ok i hi, h.one, h.n8⟩
/-- One timer has turned. -/
theorem RmAt.turn (h : RmAt w g n q t) {i : Nat} {x : Tm} (hi : i < n) (a : TAt w' (q i) tC x) (ox : x.ok) (ho : Off (· = q i) w w') : RmAt w' g n q (upd1 t i x) :=
  ⟨ho.at h.room (fun e => h.gne hi e.symm), fun k hk => by
    by_cases e : k = i
    · subst e; rw [upd1_at]; exact a
    · rw [upd1_ne _ _ e]; exact (h.tms k hk).off ho (fun e2 => e (h.one k i hk hi e2)), fun k hk => by
    by_cases e : k = i
    · subst e; rw [upd1_at]; exact ox
    · rw [upd1_ne _ _ e]; exact h.ok k hk, h.one, h.n8⟩
theorem RmAt.cell (h : RmAt w g n q t) {i : Nat} (hi : i < n) : w.cell? ⟨g, i, none⟩ = some (.pointer (some ⟨q i, 0, none⟩)) := by
  rw [blk_cell h.room i]
  simpa [ptr] using rm_get n q i hi h.n8
theorem BkAt.ltp (h : BkAt w p g n q t) : p < w.heap.size := lt_of_block h.cell
theorem BkAt.c0 (h : BkAt w p g n q t) : w.cell? ⟨p, 0, none⟩ = some (.slice (some ⟨g, 0, none⟩) n n) := by rw [blk_cell h.cell 0]; rfl
theorem BkAt.pne (h : BkAt w p g n q t) {i : Nat} (hi : i < n) : q i ≠ p := apart_types (h.rm.tms i hi) h.cell rfl
theorem BkAt.below (h : BkAt w p g n q t) (hb : Below w.heap.size w w') : BkAt w' p g n q t := ⟨blk_below hb h.cell h.ltp, h.rm.below hb⟩
theorem BkAt.off {S : Nat → Prop} (h : BkAt w p g n q t) (ho : Off S w w') (hp : ¬ S p) (hg : ¬ S g) (hq : ∀ i, i < n → ¬ S (q i)) : BkAt w' p g n q t := ⟨ho.at h.cell hp, h.rm.off ho hg hq⟩
theorem BkAt.congr (h : BkAt w p g n q t) (hs : ∀ i, i < n → t i = s i) : BkAt w p g n q s := ⟨h.cell, h.rm.congr hs⟩
theorem BkAt.turn (h : BkAt w p g n q t) {i : Nat} {x : Tm} (hi : i < n) (a : TAt w' (q i) tC x) (ox : x.ok) (ho : Off (· = q i) w w') : BkAt w' p g n q (upd1 t i x) :=
  ⟨ho.at h.cell (fun e => h.pne hi e.symm), h.rm.turn hi a ox ho⟩
theorem BkAt.get (h : BkAt w p g n q t) {i : Nat} (hi : i < n) : w.cell? ⟨g, i, none⟩ = some (.pointer (some ⟨q i, 0, none⟩)) := h.rm.cell hi
theorem BkAt.free (h : BkAt w p g n q t) (j : Nat) : w.frozen? ⟨g, j, none⟩ = false := blk_free h.rm.room j
end
theorem Off.own {n : Nat} {q : Nat → Nat} {i : Nat} (hi : i < n) {w w' : World} (h : Off (· = q i) w w') : Off (own n q) w w' := h.mono fun k _ e => ⟨i, hi, e⟩
/-- All are above a place. -/
theorem own_below {B n : Nat} {q : Nat → Nat} {w a b : World} (h : Below B w a) (ho : Off (own n q) a b) (hq : ∀ i, i < n → B ≤ q i) (hB : B ≤ w.heap.size) : Below B w b :=
  Off.toBelow h ho (fun k hk ⟨i, hi, e⟩ => by have := hq i hi; omega) hB
end Go.Proofs.YtcgmnjajodegmaaGreat.B
namespace Go.Proofs.YtcgmnjajodegmaaGreat.B
set_option linter.unusedVariables false
set_option linter.unusedSimpArgs false
open Go.ChangeShapes Go.WideShapes Go.RowKit Go.Sort
theorem zW_T : Obj.cells #[.int .u32 0, .int .u32 0, .int .u32 0, .int .u32 0, .int .u64 0] 208 (0, 0) = .cells (wl tz).toArray 208 (0, 0) := rfl
set_option maxHeartbeats 1600000 in
set_option maxRecDepth 100000 in
theorem nTick (t : Tm) (n : Int) (p : Nat) (w : World) (h : t.ok) (a : TAt w p tC t) (n0 : 0 ≤ n) (n1 : n < 18446744073709551616) :
    Calls Tryz.prog 257 #[.pointer (some ⟨p, 0, none⟩), .int .u64 n] w fun e w' => e = .returned (.tuple #[]) ∧ TAt w' p tC (t.tick n) ∧ Off (· = p) w w' := by
  obtain ⟨R, hR⟩ : ∃ R, t.tick n = R := ⟨_, rfl⟩
  rw [hR]
  have HR := Lib.hid hR
  clear hR
  go_enter Tryz.func257, Tryz.ntmps257
  go_wp2_with fail
  go_loopw [1] (fun x wr => ∃ (m : Int) (s : Tm), x = .int .u64 m ∧ 0 ≤ m ∧ m < 18446744073709551616 ∧ s.ok ∧ TAt wr p tC s ∧ Off (· = p) w wr ∧ Hid (s.tick m = R)) (fun x wr => (intOf x).toNat)
  case atStart => exact ⟨n, t, rfl, n0, n1, h, a, Off.refl _ _, HR⟩
  case round =>
    clear a h HR n0 n1
    obtain ⟨m, s, rfl, m0, m1, h, a, ho, HR⟩ := hrel
    have hL := h.left
    have RN := Lib.hid (fun w a => nRuns s p w h a)
    cases hen : s.en
    · rw [hen] at RN
      go_wp2_with fail
      refine (RN.out _ a).mono ?_
      rintro e w1 ⟨rfl, hb⟩
      have a1 := a.below hb
      have ho1 := ho.trans (Off.ofBelow hb)
      clear a hb ho
      go_wp2_with fail
      refine (RN.out _ a1).mono ?_
      rintro e w2 ⟨rfl, hb⟩
      have a2 := a1.below hb
      have ho2 := ho1.trans (Off.ofBelow hb)
      clear a1 hb ho1
      go_wp2_with fail
      go_end0
      refine ⟨rfl, ?_, ho2⟩
      rw [← HR.out, Tm.tick_off hen]; exact a2
    · rw [hen] at RN
      have LF := Lib.hid (fun w => nLft s w h)
      go_wp2_with fail
      refine (RN.out _ a).mono ?_
      rintro e w1 ⟨rfl, hb⟩
      have a1 := a.below hb
      have ho1 := ho.trans (Off.ofBelow hb)
      clear a hb ho
      go_wp2_with (refine loadTg (.tmp 11) rfl rfl rfl a1 ?_)
      refine (LF.out _).mono ?_
      rintro e w2 ⟨rfl, hb⟩
      have a := a1.below hb
      have ho := ho1.trans (Off.ofBelow hb)
      clear a1 hb ho1
      by_cases hle : s.left ≤ m
      · go_wp2_with (refine loadT rfl (.tmp 19) rfl rfl a ?_)
        refine (LF.out _).mono ?_
        rintro e w1 ⟨rfl, hb⟩
        have a1 := a.below hb
        have ho1 := ho.trans (Off.ofBelow hb)
        clear a hb ho
        have HE := Lib.hid (show s.exp.tick (m - s.left) = R by rw [← Tm.tick_ge h hen hle]; exact HR.out)
        clear HR LF RN
        have zq : TAt (w1.alloc (.cells (wl tz).toArray 208 (0, 0))) w1.heap.size 208 tz := blk_new w1 (.cells (wl tz).toArray 208 (0, 0))
        have hpq : p ≠ w1.heap.size := by have := a1.lt; omega
        have aP := (a1.below (trA (tr0 w1) (.cells (wl tz).toArray 208 (0, 0)))).elseRow w1.heap.size (wl s).toArray hpq
        have aQ := TAt.row zq s
        have hq0 : w.heap.size ≤ w1.heap.size := ho1.size
        have hoP : Off (· = p) w ((w1.alloc (.cells (wl tz).toArray 208 (0, 0))).setRow w1.heap.size (wl s).toArray) :=
          ho1.trans (Off.ofBelow (below_setRow (trA (tr0 w1) _) _ (Nat.le_refl _)))
        go_upto_region 3 with (first | (refine loadT rfl (.tmp 25) rfl rfl a1 ?_) | (refine storeT rfl (.tmp 4) (.tmp 26) rfl rfl rfl zq ?_))
        rw [zW_T]
        clear a1 zq ho1
        generalize ((w1.alloc (.cells (wl tz).toArray 208 (0, 0))).setRow w1.heap.size (wl s).toArray) = W2 at *
        generalize w1.heap.size = q at *
        go_wp2_with (refine loadT rfl (.tmp 30) rfl rfl aP ?_)
        refine (nExp s _ h).mono ?_
        rintro e W3 ⟨rfl, hb⟩
        have aP1 := aP.below hb
        have aQ1 := aQ.below hb
        have ho1 := hoP.trans (Off.ofBelow hb)
        clear aP aQ hoP hb
        have aP := TAt.row aP1 s.exp
        have aQ := aQ1.elseRow p (wl s.exp).toArray (fun e => hpq e.symm)
        have ho := ho1.trans (off_row W3 p (wl s.exp).toArray)
        go_upto_region 4 with (refine storeT rfl (.tmp 34) (.tmp 32) rfl rfl rfl aP1 ?_)
        clear aP1 aQ1 ho1
        generalize W3.setRow p (wl s.exp).toArray = W4 at *
        have hE := Tm.exp_ok h
        have hEL := hE.left
        cases hq : eqT s.exp s
        · go_simp
          refine wp_region_quiet_below (by kernel_rfl) (by kernel_rfl) ?_
          repeat (first
            | go_big_quiet_skip
            | (go_big_quiet_want; first
                | (refine qloadT (.tmp 37) rfl rfl aP.grown ?_; go_simp; go_big_quiet_on)
                | (refine qloadT (.tmp 4) rfl rfl aQ.grown ?_; go_simp; go_big_quiet_on)
                | (refine qeqT (.tmp 38) (.tmp 39) _ rfl rfl rfl ?_; go_simp; go_big_quiet_on)
                | (go_big_quiet_op; first | go_big_quiet_on)))
          refine wpQuiet_nil ?_
          intro _ hw'
          obtain ⟨⟨dq, osq⟩, hw''⟩ := hw'
          subst hw''
          have hbr := below_regrown W4 dq osq
          go_wp2_with fail
          go_roundw
          case rel => exact ⟨m - s.left, s.exp, rfl, by omega, by omega, hE, aP.below hbr, ho.trans (Off.ofBelow hbr), HE⟩
          case measure => simp [intOf]; omega
        · have hs := eqT_exp hen hq
          have hm := mod_bounds (a := m - s.left) (u := s.exp.left) (by omega)
          have hm2 : (m - s.left) % s.exp.left ≤ m - s.left := by
            by_cases c : m - s.left < s.exp.left
            · rw [Int.emod_eq_of_lt (by omega) c]; omega
            · omega
          have HE2 := Lib.hid (show s.exp.tick ((m - s.left) % s.exp.left) = R by rw [← HE.out]; exact (Tm.tick_mod hE (by rw [hs]; exact hen) (by rw [hs]; exact hs) _ (by omega)).symm)
          have LF := Lib.hid (fun w => nLft s.exp w hE)
          clear hs
          go_simp
          refine wp_region_quiet_below (by kernel_rfl) (by kernel_rfl) ?_
          repeat (first
            | go_big_quiet_skip
            | (go_big_quiet_want; first
                | (refine qloadT (.tmp 37) rfl rfl aP.grown ?_; go_simp; go_big_quiet_on)
                | (refine qloadT (.tmp 4) rfl rfl aQ.grown ?_; go_simp; go_big_quiet_on)
                | (refine qeqT (.tmp 38) (.tmp 39) _ rfl rfl rfl ?_; go_simp; go_big_quiet_on)
                | (go_big_quiet_op; first | go_big_quiet_on)))
          refine wpQuiet_nil ?_
          intro _ hw'
          obtain ⟨⟨dq, osq⟩, hw''⟩ := hw'
          subst hw''
          have hbr := below_regrown W4 dq osq
          have a1 := aP.below hbr
          have ho1 := ho.trans (Off.ofBelow hbr)
          clear aP aQ ho hbr HE
          go_wp2_with (refine loadT rfl (.tmp 44) rfl rfl a1 ?_)
          refine (LF.out _).mono ?_
          rintro e W5 ⟨rfl, hb⟩
          have a := a1.below hb
          have ho := ho1.trans (Off.ofBelow hb)
          clear a1 ho1 hb
          go_wp2_with fail
          go_roundw
          case rel => exact ⟨(m - s.left) % s.exp.left, s.exp, rfl, hm.1, by omega, hE, a, ho, HE2⟩
          case measure => simp [intOf]; omega
      · go_wp2_with fail
        refine (RN.out _ a).mono ?_
        rintro e w1 ⟨rfl, hb⟩
        have a1 := a.below hb
        have ho1 := ho.trans (Off.ofBelow hb)
        clear a hb ho
        go_wp2_with (refine loadT rfl (.tmp 53) rfl rfl a1 ?_)
        refine (nLat s m _ h m0 (by omega)).mono ?_
        rintro e w2 ⟨rfl, hb⟩
        have a := a1.below hb
        have ho := ho1.trans (Off.ofBelow hb)
        clear a1 hb ho1
        go_wp2_with (refine storeT rfl (.tmp 58) (.tmp 56) rfl rfl rfl a ?_)
        go_end0
        refine ⟨rfl, ?_, ho.trans (off_row _ _ _)⟩
        rw [← HR.out, Tm.tick_lt hen (by omega)]; exact TAt.row a _
theorem nTickNil (n : Int) (w : World) : Calls Tryz.prog 257 #[.pointer none, .int .u64 n] w fun e w' => e = .returned (.tuple #[]) ∧ w = w' := by
  go_enter Tryz.func257, Tryz.ntmps257
  go_wp2_with fail
  refine wp_loop_rounds 1 ?_
  rw [rounds_succ]
  go_wp2_with fail
  refine (nRunsNil w).mono ?_
  rintro e w1 ⟨rfl, rfl⟩
  go_wp2_with fail
  refine (nRunsNil w).mono ?_
  rintro e w1 ⟨rfl, rfl⟩
  go_wp2_with fail
  go_end0
  exact ⟨rfl, rfl⟩
end Go.Proofs.YtcgmnjajodegmaaGreat.B
namespace Go.Proofs.YtcgmnjajodegmaaGreat.B
set_option linter.unusedVariables false
set_option linter.unusedSimpArgs false
open Go.ChangeShapes Go.WideShapes Go.RowKit Go.Sort
theorem upd_step (t : Nat → Tm) (f : Tm → Tm) (k i : Nat) : upd1 (fun i => if i < k then f (t i) else t i) k (f (t k)) i = if i < k + 1 then f (t i) else t i := by
  by_cases e : i = k
  · subst e; rw [upd1_at, if_pos (by omega)]
  · rw [upd1_ne _ _ e]
    by_cases c : i < k
    · rw [if_pos (show i < k + 1 by omega)]; exact if_pos c
    · rw [if_neg (show ¬ i < k + 1 by omega)]; exact if_neg c
section
variable {p g n : Nat} {q : Nat → Nat} {t : Nat → Tm} {w : World}
theorem bAll (h : BkAt w p g n q t) : Calls Tryz.prog 134 #[.pointer (some ⟨p, 0, none⟩)] w fun e w' => e = .returned (.slice (some ⟨g, 0, none⟩) n n) ∧ w = w' := by
  have c0 := h.c0
  clear h
  go_enter Tryz.func134, Tryz.ntmps134
  go_wp2_with fail
  go_ret
  exact ⟨rfl, rfl⟩
theorem bAllNil (w : World) : Calls Tryz.prog 134 #[.pointer none] w fun e w' => e = .returned (.slice none 0 0) ∧ w = w' := by
  go_enter Tryz.func134, Tryz.ntmps134
  go_wp2_with fail
  go_ret
  exact ⟨rfl, rfl⟩
theorem bLen (h : BkAt w p g n q t) : Calls Tryz.prog 102 #[.pointer (some ⟨p, 0, none⟩)] w fun e w' => e = .returned (.int .i64 n) ∧ w = w' := by
  go_enter Tryz.func102, Tryz.ntmps102
  go_wp2_with fail
  refine (bAll h).mono ?_
  rintro e w1 ⟨rfl, rfl⟩
  go_wp2_with fail
  go_ret
  exact ⟨rfl, rfl⟩
theorem bLenNil (w : World) : Calls Tryz.prog 102 #[.pointer none] w fun e w' => e = .returned (.int .i64 0) ∧ w = w' := by
  go_enter Tryz.func102, Tryz.ntmps102
  go_wp2_with fail
  refine (bAllNil w).mono ?_
  rintro e w1 ⟨rfl, rfl⟩
  go_wp2_with fail
  go_ret
  exact ⟨rfl, rfl⟩
theorem bTick (h : BkAt w p g n q t) (N : Int) (n0 : 0 ≤ N) (n1 : N < 18446744073709551616) :
    Calls Tryz.prog 253 #[.pointer (some ⟨p, 0, none⟩), .int .u64 N] w fun e w' => e = .returned (.tuple #[]) ∧ BkAt w' p g n q (fun i => (t i).tick N) ∧ Off (own n q) w w' := by
  have n8 := h.rm.n8
  go_enter Tryz.func253, Tryz.ntmps253
  go_wp2_with fail
  refine (bAll h).mono ?_
  rintro e w1 ⟨rfl, rfl⟩
  go_wp2_with fail
  go_loopw [9] (fun i wr => ∃ k : Nat, k ≤ n ∧ i = .int .i64 k ∧ BkAt wr p g n q (fun i => if i < k then (t i).tick N else t i) ∧ Off (own n q) w wr) (fun i wr => n - (intOf i).toNat)
  case atStart => exact ⟨0, by omega, rfl, h.congr (fun i _ => by simp), Off.refl _ _⟩
  case round =>
    obtain ⟨k, hk, rfl, H, ho⟩ := hrel
    by_cases hlt : k < n
    · have hc := H.get hlt
      have ht := H.rm.tms k hlt
      have ok := H.rm.ok k hlt
      simp only [Nat.lt_irrefl, if_false] at ht ok
      have HH := Lib.hid H
      have HO := Lib.hid ho
      clear H ho h
      go_wp2_with fail
      refine (nTick (t k) N (q k) wr ok ht n0 n1).mono ?_
      rintro e w2 ⟨rfl, a2, ho2⟩
      have H2 := (HH.out.turn hlt a2 (Tm.tick_ok ok n0) ho2).congr (s := fun i => if i < k + 1 then (t i).tick N else t i) (fun i _ => upd_step t (fun x => x.tick N) k i)
      have HO2 := HO.out.trans (ho2.own hlt)
      clear HH HO ho2 a2 ht ok hc
      go_wp2_with fail
      go_roundw
      case rel => exact ⟨k + 1, by omega, by go_num, H2, HO2⟩
      case measure => simp [intOf]; omega
    · obtain rfl : k = n := by omega
      go_wp2_with fail
      go_end0
      exact ⟨rfl, H.congr (fun i hi => if_pos hi), ho⟩
theorem bTickNil (N : Int) (w : World) : Calls Tryz.prog 253 #[.pointer none, .int .u64 N] w fun e w' => e = .returned (.tuple #[]) ∧ w = w' := by
  go_enter Tryz.func253, Tryz.ntmps253
  go_wp2_with fail
  refine (bAllNil w).mono ?_
  rintro e w1 ⟨rfl, rfl⟩
  go_wp2_with fail
  refine wp_loop_rounds 1 ?_
  rw [rounds_succ]
  go_wp2_with fail
  go_end0
  exact ⟨rfl, rfl⟩
theorem bReset (h : BkAt w p g n q t) :
    Calls Tryz.prog 251 #[.pointer (some ⟨p, 0, none⟩)] w fun e w' => e = .returned (.tuple #[]) ∧ BkAt w' p g n q (fun i => tz) ∧ Off (own n q) w w' := by
  have n8 := h.rm.n8
  go_enter Tryz.func251, Tryz.ntmps251
  go_wp2_with fail
  refine (bAll h).mono ?_
  rintro e w1 ⟨rfl, rfl⟩
  go_wp2_with fail
  go_loopw [7] (fun i wr => ∃ k : Nat, k ≤ n ∧ i = .int .i64 k ∧ BkAt wr p g n q (fun i => if i < k then tz else t i) ∧ Off (own n q) w wr) (fun i wr => n - (intOf i).toNat)
  case atStart => exact ⟨0, by omega, rfl, h.congr (fun i _ => by simp), Off.refl _ _⟩
  case round =>
    obtain ⟨k, hk, rfl, H, ho⟩ := hrel
    by_cases hlt : k < n
    · have hc := H.get hlt
      have ht := H.rm.tms k hlt
      simp only [Nat.lt_irrefl, if_false] at ht
      have HH := Lib.hid H
      have HO := Lib.hid ho
      clear H ho h
      go_wp2_with fail
      refine (nReset (t k) (q k) wr ht).mono ?_
      rintro e w2 ⟨rfl, rfl⟩
      have ho2 := off_row wr (q k) (wl tz).toArray
      have H2 := (HH.out.turn hlt (TAt.row ht tz) tz_ok ho2).congr (s := fun i => if i < k + 1 then tz else t i) (fun i _ => upd_step t (fun _ => tz) k i)
      have HO2 := HO.out.trans (ho2.own hlt)
      clear HH HO ho2 ht hc
      generalize wr.setRow (q k) (wl tz).toArray = W2 at *
      go_wp2_with fail
      go_roundw
      case rel => exact ⟨k + 1, by omega, by go_num, H2, HO2⟩
      case measure => simp [intOf]; omega
    · obtain rfl : k = n := by omega
      go_wp2_with fail
      go_end0
      exact ⟨rfl, H.congr (fun i hi => if_pos hi), ho⟩
theorem bResetNil (w : World) : Calls Tryz.prog 251 #[.pointer none] w fun e w' => e = .returned (.tuple #[]) ∧ w = w' := by
  go_enter Tryz.func251, Tryz.ntmps251
  go_wp2_with fail
  refine (bAllNil w).mono ?_
  rintro e w1 ⟨rfl, rfl⟩
  go_wp2_with fail
  refine wp_loop_rounds 1 ?_
  rw [rounds_succ]
  go_wp2_with fail
  go_end0
  exact ⟨rfl, rfl⟩
theorem bAskLine (h : BkAt w p g n q t) :
    Calls Tryz.prog 65 #[.pointer (some ⟨p, 0, none⟩), .func (.func 71) #[] #[]] w fun e w' => e = .returned (.int .u32 (ob (fun i => (t i).st && (t i).iq) n)) ∧ Below w.heap.size w w' := by
  have n8 := h.rm.n8
  go_enter Tryz.func65, Tryz.ntmps65
  go_wp2_with fail
  refine (bAll h).mono ?_
  rintro e w1 ⟨rfl, rfl⟩
  go_wp2_with fail
  go_loopw [5, 11] (fun a i wr => ∃ (k : Nat) (X : Int), k ≤ n ∧ i = .int .i64 k ∧ a = .int .u32 X ∧ 0 ≤ X ∧ X < 4294967296 ∧ Hid (X = ob (fun i => (t i).st && (t i).iq) k) ∧ BkAt wr p g n q t ∧ Below w.heap.size w wr) (fun a i wr => n - (intOf i).toNat)
  case atStart => exact ⟨0, 0, by omega, rfl, rfl, by omega, by omega, Lib.hid rfl, h, tr0 w⟩
  case round =>
    clear h
    obtain ⟨k, X, hk, rfl, rfl, X0, X1, hX, H, hB⟩ := hrel
    by_cases hlt : k < n
    · have hc := H.get hlt
      have ht := H.rm.tms k hlt
      have ok := H.rm.ok k hlt
      have HH := Lib.hid H
      have ho := or_un (fun i => (t i).st && (t i).iq) k (by omega)
      have hbd := ob_bounds (fun i => (t i).st && (t i).iq) (k + 1) (by omega)
      have hun := un_bounds k
      rw [← hX.out] at ho
      have hy := ob_yes (fun i => (t i).st && (t i).iq) k (by omega)
      have hno := ob_no (fun i => (t i).st && (t i).iq) k
      obtain ⟨f, hf⟩ : ∃ f, ((t k).st && (t k).iq) = f := ⟨_, rfl⟩
      have C := nLine (t k) (q k) wr ok ht
      rw [hf] at C
      rw [hf] at hy hno
      have HY := Lib.hid hy
      have HN := Lib.hid hno
      have HB := Lib.hid hbd
      clear H hf hy hno hbd
      cases f
      · go_wp2_with fail
        refine C.mono ?_
        rintro e w2 ⟨rfl, hb⟩
        have H2 := HH.out.below hb
        have hB2 := tr hB hb
        clear HH hc ht hb ho hun C
        go_wp2_with fail
        go_roundw
        case rel => exact ⟨k + 1, X, by omega, by go_num, rfl, X0, X1, Lib.hid (by rw [HN.out (by simp)]; exact hX.out), H2, hB2⟩
        case measure => simp [intOf]; omega
      · have HO := Lib.hid ho
        clear ho
        go_wp2_with fail
        refine C.mono ?_
        rintro e w2 ⟨rfl, hb⟩
        have H2 := HH.out.below hb
        have hB2 := tr hB hb
        clear HH hc ht hb C
        go_wp2_with fail
        go_roundw
        case rel => exact ⟨k + 1, ob (fun i => (t i).st && (t i).iq) (k + 1), by omega, by go_num, by rw [HY.out (by simp), ← hX.out, ← HO.out]; rfl, HB.out.1, HB.out.2, Lib.hid rfl, H2, hB2⟩
        case measure => simp [intOf]; omega
    · obtain rfl : k = n := by omega
      go_wp2_with fail
      go_ret
      exact ⟨ret_int hX.out, hB⟩
theorem bLines (h : BkAt w p g n q t) :
    Calls Tryz.prog 32 #[.pointer (some ⟨p, 0, none⟩)] w fun e w' => e = .returned (.int .u32 (ob (fun i => (t i).st && (t i).iq) n)) ∧ Below w.heap.size w w' := by
  go_enter Tryz.func32, Tryz.ntmps32
  go_wp2_with fail
  refine (bAskLine h).mono ?_
  rintro e w1 ⟨rfl, hb⟩
  go_wp2_with fail
  go_ret
  exact ⟨rfl, hb⟩
theorem bAskLineNil (w : World) :
    Calls Tryz.prog 65 #[.pointer none, .func (.func 71) #[] #[]] w fun e w' => e = .returned (.int .u32 0) ∧ w = w' := by
  go_enter Tryz.func65, Tryz.ntmps65
  go_wp2_with fail
  refine (bAllNil w).mono ?_
  rintro e w1 ⟨rfl, rfl⟩
  go_wp2_with fail
  refine wp_loop_rounds 1 ?_
  rw [rounds_succ]
  go_wp2_with fail
  go_ret
  exact ⟨rfl, rfl⟩
theorem bLinesNil (w : World) : Calls Tryz.prog 32 #[.pointer none] w fun e w' => e = .returned (.int .u32 0) ∧ w = w' := by
  go_enter Tryz.func32, Tryz.ntmps32
  go_wp2_with fail
  refine (bAskLineNil w).mono ?_
  rintro e w1 ⟨rfl, rfl⟩
  go_wp2_with fail
  go_ret
  exact ⟨rfl, rfl⟩
theorem bAskRuns (h : BkAt w p g n q t) :
    Calls Tryz.prog 65 #[.pointer (some ⟨p, 0, none⟩), .func (.func 66) #[] #[]] w fun e w' => e = .returned (.int .u32 (ob (fun i => (t i).en) n)) ∧ Below w.heap.size w w' := by
  have n8 := h.rm.n8
  go_enter Tryz.func65, Tryz.ntmps65
  go_wp2_with fail
  refine (bAll h).mono ?_
  rintro e w1 ⟨rfl, rfl⟩
  go_wp2_with fail
  go_loopw [5, 11] (fun a i wr => ∃ (k : Nat) (X : Int), k ≤ n ∧ i = .int .i64 k ∧ a = .int .u32 X ∧ 0 ≤ X ∧ X < 4294967296 ∧ Hid (X = ob (fun i => (t i).en) k) ∧ BkAt wr p g n q t ∧ Below w.heap.size w wr) (fun a i wr => n - (intOf i).toNat)
  case atStart => exact ⟨0, 0, by omega, rfl, rfl, by omega, by omega, Lib.hid rfl, h, tr0 w⟩
  case round =>
    clear h
    obtain ⟨k, X, hk, rfl, rfl, X0, X1, hX, H, hB⟩ := hrel
    by_cases hlt : k < n
    · have hc := H.get hlt
      have ht := H.rm.tms k hlt
      have ok := H.rm.ok k hlt
      have HH := Lib.hid H
      have ho := or_un (fun i => (t i).en) k (by omega)
      have hbd := ob_bounds (fun i => (t i).en) (k + 1) (by omega)
      have hun := un_bounds k
      rw [← hX.out] at ho
      have hy := ob_yes (fun i => (t i).en) k (by omega)
      have hno := ob_no (fun i => (t i).en) k
      obtain ⟨f, hf⟩ : ∃ f, ((t k).en) = f := ⟨_, rfl⟩
      have C := nRuns (t k) (q k) wr ok ht
      rw [hf] at C
      rw [hf] at hy hno
      have HY := Lib.hid hy
      have HN := Lib.hid hno
      have HB := Lib.hid hbd
      clear H hf hy hno hbd
      cases f
      · go_wp2_with fail
        refine C.mono ?_
        rintro e w2 ⟨rfl, hb⟩
        have H2 := HH.out.below hb
        have hB2 := tr hB hb
        clear HH hc ht hb ho hun C
        go_wp2_with fail
        go_roundw
        case rel => exact ⟨k + 1, X, by omega, by go_num, rfl, X0, X1, Lib.hid (by rw [HN.out (by simp)]; exact hX.out), H2, hB2⟩
        case measure => simp [intOf]; omega
      · have HO := Lib.hid ho
        clear ho
        go_wp2_with fail
        refine C.mono ?_
        rintro e w2 ⟨rfl, hb⟩
        have H2 := HH.out.below hb
        have hB2 := tr hB hb
        clear HH hc ht hb C
        go_wp2_with fail
        go_roundw
        case rel => exact ⟨k + 1, ob (fun i => (t i).en) (k + 1), by omega, by go_num, by rw [HY.out (by simp), ← hX.out, ← HO.out]; rfl, HB.out.1, HB.out.2, Lib.hid rfl, H2, hB2⟩
        case measure => simp [intOf]; omega
    · obtain rfl : k = n := by omega
      go_wp2_with fail
      go_ret
      exact ⟨ret_int hX.out, hB⟩
theorem bRuns (h : BkAt w p g n q t) :
    Calls Tryz.prog 27 #[.pointer (some ⟨p, 0, none⟩)] w fun e w' => e = .returned (.int .u32 (ob (fun i => (t i).en) n)) ∧ Below w.heap.size w w' := by
  go_enter Tryz.func27, Tryz.ntmps27
  go_wp2_with fail
  refine (bAskRuns h).mono ?_
  rintro e w1 ⟨rfl, hb⟩
  go_wp2_with fail
  go_ret
  exact ⟨rfl, hb⟩
theorem bAskRunsNil (w : World) :
    Calls Tryz.prog 65 #[.pointer none, .func (.func 66) #[] #[]] w fun e w' => e = .returned (.int .u32 0) ∧ w = w' := by
  go_enter Tryz.func65, Tryz.ntmps65
  go_wp2_with fail
  refine (bAllNil w).mono ?_
  rintro e w1 ⟨rfl, rfl⟩
  go_wp2_with fail
  refine wp_loop_rounds 1 ?_
  rw [rounds_succ]
  go_wp2_with fail
  go_ret
  exact ⟨rfl, rfl⟩
theorem bRunsNil (w : World) : Calls Tryz.prog 27 #[.pointer none] w fun e w' => e = .returned (.int .u32 0) ∧ w = w' := by
  go_enter Tryz.func27, Tryz.ntmps27
  go_wp2_with fail
  refine (bAskRunsNil w).mono ?_
  rintro e w1 ⟨rfl, rfl⟩
  go_wp2_with fail
  go_ret
  exact ⟨rfl, rfl⟩
end
end Go.Proofs.YtcgmnjajodegmaaGreat.B
namespace Go.Proofs.YtcgmnjajodegmaaGreat.B
set_option linter.unusedVariables false
set_option linter.unusedSimpArgs false
open Go.ChangeShapes Go.WideShapes Go.RowKit Go.Sort
section
variable {p g n : Nat} {q : Nat → Nat} {t : Nat → Tm} {w : World}
theorem bTimer (h : BkAt w p g n q t) (i : Nat) (hi : i < n) : Calls Tryz.prog 106 #[.pointer (some ⟨p, 0, none⟩), .int .i64 i] w fun e w' => e = .returned (.pointer (some ⟨w.heap.size, 0, none⟩)) ∧ w' = w.alloc (.cells (wl (t i)).toArray tC (0, 0)) := by
  have n8 := h.rm.n8
  have c0 := h.c0
  have hc := h.get hi
  have ht := h.rm.tms i hi
  have H := Lib.hid h
  clear h
  go_enter Tryz.func106, Tryz.ntmps106
  go_wp2_with fail
  refine (bLen H.out).mono ?_
  rintro e w1 ⟨rfl, rfl⟩
  go_wp2_with fail
  refine (nCopy (t i) (q i) _ ht).mono ?_
  rintro e w1 ⟨rfl, rfl⟩
  go_wp2_with fail
  go_ret
  exact ⟨rfl, rfl⟩
theorem bTimerNo (h : BkAt w p g n q t) (i : Int) (hi : i < 0 ∨ (n : Int) ≤ i) : Calls Tryz.prog 106 #[.pointer (some ⟨p, 0, none⟩), .int .i64 i] w fun e w' => e = .returned (.pointer none) ∧ w = w' := by
  have n8 := h.rm.n8
  by_cases h0 : i < 0
  · go_enter Tryz.func106, Tryz.ntmps106
    go_wp2_with fail
    go_ret
    exact ⟨rfl, rfl⟩
  · have h1 : (n : Int) ≤ i := by omega
    clear hi
    go_enter Tryz.func106, Tryz.ntmps106
    go_wp2_with fail
    refine (bLen h).mono ?_
    rintro e w1 ⟨rfl, rfl⟩
    go_wp2_with fail
    go_ret
    exact ⟨rfl, rfl⟩
theorem bTimerNil (i : Int) (i0 : 0 ≤ i) (w : World) : Calls Tryz.prog 106 #[.pointer none, .int .i64 i] w fun e w' => e = .returned (.pointer none) ∧ w = w' := by
  go_enter Tryz.func106, Tryz.ntmps106
  go_wp2_with fail
  refine (bLenNil w).mono ?_
  rintro e w1 ⟨rfl, rfl⟩
  go_wp2_with fail
  go_ret
  exact ⟨rfl, rfl⟩
theorem bFindNil (o : Int) (w : World) : Calls Tryz.prog 254 #[.pointer none, .int .u32 o] w fun e w' => e = .returned (.tuple #[.pointer none, .int .u32 0, .int .i64 10]) ∧ w = w' := by
  go_enter Tryz.func254, Tryz.ntmps254
  go_wp2_with fail
  refine bodyPost_ret (v := .tuple #[.pointer none, .int .u32 0, .int .i64 10]) ?_ rfl ⟨rfl, rfl⟩
  simp [results, Tryz.results254, go_sem]
theorem bFindNo (h : BkAt w p g n q t) (o E : Int) (o0 : 0 ≤ o) (o1 : o < 4294967296) (hE : kErr n o = E) (hne : E ≠ 0) :
    Calls Tryz.prog 254 #[.pointer (some ⟨p, 0, none⟩), .int .u32 o] w fun e w' => e = .returned (.tuple #[.pointer none, .int .u32 0, .int .i64 E]) ∧ w = w' := by
  have n8 := h.rm.n8
  have H := Lib.hid h
  clear h
  unfold kErr at hE
  cases h4 : (o % 4 != 0)
  · rw [h4, if_neg (by simp)] at hE
    by_cases hn : (n : Int) ≤ o / 32
    · rw [if_pos hn] at hE
      subst hE
      clear hne
      go_enter Tryz.func254, Tryz.ntmps254
      go_wp2_with fail
      refine (bLen H.out).mono ?_
      rintro e w1 ⟨rfl, rfl⟩
      go_wp2_with fail
      refine bodyPost_ret (v := .tuple #[.pointer none, .int .u32 0, .int .i64 10]) ?_ rfl ⟨rfl, rfl⟩
      simp [results, Tryz.results254, go_sem]
    · rw [if_neg hn] at hE
      exact absurd hE.symm hne
  · rw [h4, if_pos rfl] at hE
    subst hE
    clear hne
    go_enter Tryz.func254, Tryz.ntmps254
    go_wp2_with fail
    refine bodyPost_ret (v := .tuple #[.pointer none, .int .u32 0, .int .i64 11]) ?_ rfl ⟨rfl, rfl⟩
    simp [results, Tryz.results254, go_sem]
theorem kErr_zero {n : Nat} {o : Int} (o0 : 0 ≤ o) (h : kErr n o = 0) : (o % 4 != 0) = false ∧ o / 32 < n ∧ (o / 32).toNat < n := by
  unfold kErr at h
  cases h4 : (o % 4 != 0)
  · rw [h4, if_neg (by simp)] at h
    by_cases hn : (n : Int) ≤ o / 32
    · rw [if_pos hn] at h; omega
    · exact ⟨rfl, by omega, by omega⟩
  · rw [h4, if_pos rfl] at h; omega
theorem bFind (h : BkAt w p g n q t) (o : Int) (o0 : 0 ≤ o) (o1 : o < 4294967296) (hE : kErr n o = 0) :
    Calls Tryz.prog 254 #[.pointer (some ⟨p, 0, none⟩), .int .u32 o] w fun e w' => e = .returned (.tuple #[.pointer (some ⟨q (o / 32).toNat, 0, none⟩), .int .u32 (o % 32), .int .i64 0]) ∧ w = w' := by
  obtain ⟨h4, hn, hk⟩ := kErr_zero o0 hE
  have n8 := h.rm.n8
  have c0 := h.c0
  have hc := h.get hk
  have H := Lib.hid h
  clear h hE
  go_enter Tryz.func254, Tryz.ntmps254
  go_wp2_with fail
  refine (bLen H.out).mono ?_
  rintro e w1 ⟨rfl, rfl⟩
  go_wp2_with fail
  refine bodyPost_ret (v := .tuple #[.pointer (some ⟨q (o / 32).toNat, 0, none⟩), .int .u32 (o % 32), .int .i64 0]) ?_ rfl ⟨rfl, rfl⟩
  simp [results, Tryz.results254, go_sem]
end
end Go.Proofs.YtcgmnjajodegmaaGreat.B
