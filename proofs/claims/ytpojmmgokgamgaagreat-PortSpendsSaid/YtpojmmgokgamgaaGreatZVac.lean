/- Several texts in one: The clint's block and map; layout, New, Reset, and what is asked of one. Package clint: New, Reset, Harts, Time, Compare, .. -/
import Derived.Test.YtpojmmgokgamgaaGreatZVaa
import Derived.Test.YtpojmmgokgamgaaGreatZVab
import Derived.Deep.Cut
set_option linter.unusedVariables false
set_option linter.unusedSimpArgs false
namespace Go.Proofs.YtpojmmgokgamgaaGreat.B
open Go.ChangeShapes Go.WideShapes Go.RowKit Go.Sort Go.MapKept
def ccl (t : Int) (n : Nat) (D S : Nat -> Int) (m : Nat) : List Value := [.int .u64 t, .int .i64 n] ++ (il .u64 D 8 ++ (il .u32 S 8 ++ [.map (some m)]))
theorem ccl_D (t : Int) (n : Nat) (D S : Nat -> Int) (m i : Nat) (h : i < 8) : (ccl t n D S m)[2 + i]? = some (.int .u64 (D i)) := by
 unfold ccl; rw [app_get _ _ 2 i (by rfl), app_left _ _ _ (by rw [il_len]; exact h), il_get _ _ _ _ h]
theorem ccl_S (t : Int) (n : Nat) (D S : Nat -> Int) (m i : Nat) (h : i < 8) : (ccl t n D S m)[10 + i]? = some (.int .u32 (S i)) := by
 unfold ccl; rw [show 10 + i = 2 + (8 + i) by omega, app_get _ _ 2 _ (by rfl), app_get _ _ 8 i (by rw [il_len]), app_left _ _ _ (by rw [il_len]; exact h), il_get _ _ _ _ h]
theorem ccl_M (t : Int) (n : Nat) (D S : Nat -> Int) (m : Nat) : (ccl t n D S m)[18]? = some (.map (some m)) := by
 unfold ccl; rw [show 18 = 2 + (8 + (8 + 0)) by omega, app_get _ _ 2 _ (by rfl), app_get _ _ 8 _ (by rw [il_len]), app_get _ _ 8 _ (by rw [il_len])]; rfl
theorem ccl_setT (t : Int) (n : Nat) (D S : Nat -> Int) (m : Nat) (v : Int) : (ccl t n D S m).set 0 (.int .u64 v) = ccl v n D S m := rfl
theorem ccl_setD (t : Int) (n : Nat) (D S : Nat -> Int) (m i : Nat) (v : Int) (h : i < 8) : (ccl t n D S m).set (2 + i) (.int .u64 v) = ccl t n (upd D i v) S m := by
 unfold ccl; rw [app_set _ _ 2 i _ (by rfl), app_set_left _ _ _ _ (by rw [il_len]; exact h), il_set]
theorem ccl_setS (t : Int) (n : Nat) (D S : Nat -> Int) (m i : Nat) (v : Int) (h : i < 8) : (ccl t n D S m).set (10 + i) (.int .u32 v) = ccl t n D (upd S i v) m := by
 unfold ccl; rw [show 10 + i = 2 + (8 + i) by omega, app_set _ _ 2 _ _ (by rfl), app_set _ _ 8 i _ (by rw [il_len]), app_set_left _ _ _ _ (by rw [il_len]; exact h), il_set]
structure CAt (w : World) (p m : Nat) (t : Int) (n : Nat) (D S : Nat -> Int) : Prop where
 cell : w.heap[p]? = some (.cells (ccl t n D S m).toArray 164 (0, 0))
 map : mapP w ek ok32 m (lay n)
 t0 : 0 <= t
 t1 : t < 18446744073709551616
 n0 : 1 <= n
 n1 : n <= 8
 d : okD D
 s : okS S
section
variable {w w' : World} {p m n : Nat} {t : Int} {D S : Nat -> Int}
theorem CAt.ltp (h : CAt w p m t n D S) : p < w.heap.size := lt_of_block h.cell
theorem CAt.ltm (h : CAt w p m t n D S) : m < w.heap.size := h.map.lt
theorem CAt.ne (h : CAt w p m t n D S) : p ≠ m := fun e => by obtain ⟨_, _, hb, _⟩ := h.map; rw [<- e, h.cell] at hb; cases hb
theorem CAt.kept (h : CAt w p m t n D S) (h1 : w'.heap[p]? = w.heap[p]?) (h2 : w'.heap[m]? = w.heap[m]?) : CAt w' p m t n D S :=
 ⟨h1.trans h.cell, h.map.kept h2, h.t0, h.t1, h.n0, h.n1, h.d, h.s⟩
theorem CAt.off {X : Nat -> Prop} (h : CAt w p m t n D S) (ho : Off X w w') (h1 : ¬ X p) (h2 : ¬ X m) : CAt w' p m t n D S :=
 h.kept (ho.block p h.ltp h1) (ho.block m h.ltm h2)
theorem CAt.below (h : CAt w p m t n D S) (ho : Below w.heap.size w w') : CAt w' p m t n D S := h.kept (ho.block p h.ltp) (ho.block m h.ltm)
theorem CAt.c0 (h : CAt w p m t n D S) : w.cell? ⟨p, 0, none⟩ = some (.int .u64 t) := by have := blk_cell h.cell 0; simpa [ccl] using this
theorem CAt.c1 (h : CAt w p m t n D S) : w.cell? ⟨p, 1, none⟩ = some (.int .i64 n) := by have := blk_cell h.cell 1; simpa [ccl] using this
theorem CAt.cD (h : CAt w p m t n D S) (i : Nat) (hi : i < 8) : w.cell? ⟨p, 2 + i, none⟩ = some (.int .u64 (D i)) := by
 have := blk_cell h.cell (2 + i); rw [this, List.getElem?_toArray]; exact ccl_D _ _ _ _ _ _ hi
theorem CAt.cS (h : CAt w p m t n D S) (i : Nat) (hi : i < 8) : w.cell? ⟨p, 10 + i, none⟩ = some (.int .u32 (S i)) := by
 have := blk_cell h.cell (10 + i); rw [this, List.getElem?_toArray]; exact ccl_S _ _ _ _ _ _ hi
theorem CAt.cM (h : CAt w p m t n D S) : w.cell? ⟨p, 18, none⟩ = some (.map (some m)) := by
 have := blk_cell h.cell 18; rw [this, List.getElem?_toArray]; exact ccl_M _ _ _ _ _
theorem CAt.free (h : CAt w p m t n D S) (j : Nat) : w.frozen? ⟨p, j, none⟩ = false := blk_free h.cell j
theorem CAt.set (h : CAt w p m t n D S) (j : Nat) (v : Value) {t' : Int} {D' S' : Nat -> Int} (he : (ccl t n D S m).set j v = ccl t' n D' S' m) (ht : 0 <= t' /\ t' < 18446744073709551616) (hd : okD D') (hs : okS S') :
 CAt (w.setCell ⟨p, j, none⟩ v) p m t' n D' S' :=
 ⟨by rw [blk_set h.cell, <- he]; simp, h.map.kept (Below.heap_setCell w ⟨p, j, none⟩ v m (fun e => h.ne e.symm)), ht.1, ht.2, h.n0, h.n1, hd, hs⟩
theorem CAt.setT (h : CAt w p m t n D S) {v : Int} (v0 : 0 <= v) (v1 : v < 18446744073709551616) : CAt (w.setCell ⟨p, 0, none⟩ (.int .u64 v)) p m v n D S :=
 h.set 0 _ (ccl_setT _ _ _ _ _ _) ⟨v0, v1⟩ h.d h.s
theorem CAt.setD (h : CAt w p m t n D S) (i : Nat) {v : Int} (hi : i < 8) (v0 : 0 <= v) (v1 : v < 18446744073709551616) : CAt (w.setCell ⟨p, 2 + i, none⟩ (.int .u64 v)) p m t n (upd D i v) S :=
 h.set _ _ (ccl_setD _ _ _ _ _ _ _ hi) ⟨h.t0, h.t1⟩ (h.d.upd i v0 v1) h.s
theorem CAt.setS (h : CAt w p m t n D S) (i : Nat) {v : Int} (hi : i < 8) (v0 : 0 <= v) (v1 : v < 4294967296) : CAt (w.setCell ⟨p, 10 + i, none⟩ (.int .u32 v)) p m t n D (upd S i v) :=
 h.set _ _ (ccl_setS _ _ _ _ _ _ _ hi) ⟨h.t0, h.t1⟩ h.d (h.s.upd i v0 v1)
end
theorem below_setBlock {B : Nat} {w w' : World} (h : Below B w w') (b : Nat) (o : Obj) (hb : B <= b) : Below B w (Go.ChangeMaps.setBlock w' b o) :=
 ⟨h.os, h.tape, h.output, by simpa [Go.ChangeMaps.setBlock] using h.size, fun k hk => by
  have : b ≠ k := by omega
  simp only [Go.ChangeMaps.setBlock, Array.getElem?_setIfInBounds, if_neg this]; exact h.block k hk⟩
theorem lay0 (w : World) : ∃ es c w', (Instr.mapUpdate 162 (.map (some w.heap.size)) (ek 49144) (regV 3 0)).run Tryz.prog (w.alloc (.map #[] 0)).drew = .ok () w' /\
 (Instr.mapUpdate 162 (.map (some w.heap.size)) (ek 49148) (regV 4 0)).run Tryz.prog w' = .ok () es /\ mapP es ek ok32 w.heap.size (lay 0) /\ Below w.heap.size w es /\ c = () := by
 have M0 : mapP (w.alloc (.map #[] 0)).drew ek ok32 w.heap.size [] := (mapP_made w ek ok32).kept rfl
 obtain ⟨e1, c1, h1, m1⟩ := M0.update cplaceKey Tryz.underlying162 49144 (regV 3 0) ⟨by omega, by omega⟩
 obtain ⟨e2, c2, h2, m2⟩ := m1.update cplaceKey Tryz.underlying162 49148 (regV 4 0) ⟨by omega, by omega⟩
 refine ⟨_, (), _, h1, h2, m2.perm ?_, ?_, rfl⟩
 . simp [putM, lay]
 . exact below_setBlock (below_setBlock (trD (trA (tr0 w) _)) _ _ (Nat.le_refl _)) _ _ (Nat.le_refl _)
theorem lay0' (w : World) : ∃ es c w', (Instr.mapUpdate 162 (.map (some w.heap.size)) (ek 49148) (regV 4 0)).run Tryz.prog (w.alloc (.map #[] 0)).drew = .ok () w' /\
 (Instr.mapUpdate 162 (.map (some w.heap.size)) (ek 49144) (regV 3 0)).run Tryz.prog w' = .ok () es /\ mapP es ek ok32 w.heap.size (lay 0) /\ Below w.heap.size w es /\ c = () := by
 have M0 : mapP (w.alloc (.map #[] 0)).drew ek ok32 w.heap.size [] := (mapP_made w ek ok32).kept rfl
 obtain ⟨e1, c1, h1, m1⟩ := M0.update cplaceKey Tryz.underlying162 49148 (regV 4 0) ⟨by omega, by omega⟩
 obtain ⟨e2, c2, h2, m2⟩ := m1.update cplaceKey Tryz.underlying162 49144 (regV 3 0) ⟨by omega, by omega⟩
 refine ⟨_, (), _, h1, h2, m2.perm ?_, ?_, rfl⟩
 . simp only [putM, lay]; exact List.Perm.swap _ _ _
 . exact below_setBlock (below_setBlock (trD (trA (tr0 w) _)) _ _ (Nat.le_refl _)) _ _ (Nat.le_refl _)
theorem lay_put1 (k : Nat) (h : k <= 7) : putM (4 * (k : Int)) (regV 0 k) (lay k) = (4 * (k : Int), regV 0 k) :: lay k :=
 putM_new fun p hp => by rcases lay_key k p hp with g | g | ⟨j, hj, g | g | g⟩ <;> omega
theorem lay_put2 (k : Nat) (h : k <= 7) : putM (16384 + 8 * (k : Int)) (regV 1 k) ((4 * (k : Int), regV 0 k) :: lay k) = (16384 + 8 * (k : Int), regV 1 k) :: (4 * (k : Int), regV 0 k) :: lay k :=
 putM_new fun p hp => by
  rcases List.mem_cons.1 hp with rfl | hp
  . show (4 * (k : Int)) ≠ _; omega
  . rcases lay_key k p hp with g | g | ⟨j, hj, g | g | g⟩ <;> omega
theorem lay_put3 (k : Nat) (h : k <= 7) : putM (16384 + 8 * (k : Int) + 4) (regV 2 k) ((16384 + 8 * (k : Int), regV 1 k) :: (4 * (k : Int), regV 0 k) :: lay k) = lay (k + 1) :=
 putM_new fun p hp => by
  rcases List.mem_cons.1 hp with rfl | hp
  . show (16384 + 8 * (k : Int)) ≠ _; omega
  . rcases List.mem_cons.1 hp with rfl | hp
    . show (4 * (k : Int)) ≠ _; omega
    . rcases lay_key k p hp with g | g | ⟨j, hj, g | g | g⟩ <;> omega
def LayAt (w w' : World) (n : Nat) : Prop := mapP w' ek ok32 w.heap.size (lay n) /\ Below w.heap.size w w'
set_option maxRecDepth 100000 in
theorem cLayout (n : Nat) (w : World) (hn : n <= 8) :
 Calls Tryz.prog 89 #[.int .i64 n] w fun e w' => e = .returned (.map (some w.heap.size)) /\ LayAt w w' n := by
 have hmm := @run_makeMap Tryz.prog
 obtain ⟨X, _, V, hx1, hx2, hX, hbX, _⟩ := lay0 w
 obtain ⟨Y, _, Z, hy1, hy2, hY, hbY, _⟩ := lay0' w
 have HX := Hd hX
 have HY := Hd hY
 have HXb := Hd hbX
 have HYb := Hd hbY
 clear hX hY hbX hbY
 unfold ek regV at hx1 hx2 hy1 hy2
 go_enter Tryz.func89, Tryz.ntmps89
 go_upto_region 1 with (fail)
 refine wp_asThen fun K1 hK1 => ?_
 go_cut [3] from 12 (fun v w' => v = .map (some w.heap.size) /\ LayAt w w' 0)
 case first =>
  go_region
  all_goals
   go_wp2_with fail
   go_meet
   case rel => exact ⟨rfl, by first | exact ⟨HX.out, HXb.out⟩ | exact ⟨HY.out, HYb.out⟩⟩
 case rest =>
  obtain ⟨rfl, hcut⟩ := hcut
  refine hK1 _ _ ?_
  clear hK1 hx1 hx2 hy1 hy2 HX HY HXb HYb
  go_wp2_with fail
  go_loopw [14] (fun i wr => ∃ k : Nat, k <= n /\ i = .int .i64 k /\ LayAt w wr k) (fun i _ => n - (intOf i).toNat)
  case atStart => exact ⟨0, by omega, rfl, hcut⟩
  case round =>
   clear hcut
   obtain ⟨k, hk, rfl, hM, hb⟩ := hrel
   by_cases hlt : k < n
   . have e1 : (8 * (k : Int)) % 4294967296 = 8 * k := by omega
     have g1 := lay_put1 k (by omega)
     have g2 := lay_put2 k (by omega)
     have g3 := lay_put3 k (by omega)
     have G1 := Hd g1
     have G2 := Hd g2
     have G3 := Hd g3
     clear g1 g2 g3
     go_wp2_with (first
      | (at_mapUpdate; refine wpList_put cplaceKey rfl _ _ _ _ rfl Tryz.underlying162 rfl hM (4 * (k : Int)) (regV 0 k) rfl rfl ⟨by omega, by omega⟩ ?_; intro w3 hM3 ho3; rw [G1.out] at hM3)
      | (at_mapUpdate; refine wpList_put cplaceKey rfl _ _ _ _ rfl Tryz.underlying162 rfl hM3 (16384 + 8 * (k : Int)) (regV 1 k) rfl rfl ⟨by omega, by omega⟩ ?_; intro w4 hM4 ho4; rw [G2.out] at hM4)
      | (at_mapUpdate; refine wpList_put cplaceKey rfl _ _ _ _ rfl Tryz.underlying162 rfl hM4 (16384 + 8 * (k : Int) + 4) (regV 2 k) rfl rfl ⟨by omega, by omega⟩ ?_; intro w5 hM5 ho5; rw [G3.out] at hM5))
     go_roundw
     case rel => exact ⟨k + 1, by omega, by go_num, hM5, Off.toBelow (Off.toBelow (Off.toBelow hb ho3 (fun _ h => by omega) (Nat.le_refl _)) ho4 (fun _ h => by omega) (Nat.le_refl _)) ho5 (fun _ h => by omega) (Nat.le_refl _)⟩
     case measure => simp [intOf]; omega
   . obtain rfl : k = n := by omega
     go_wp2_with fail
     go_ret
     exact ⟨rfl, hM, hb⟩
def rsD (D : Nat -> Int) (k : Nat) : Nat -> Int := fun i => if i < k then 18446744073709551615 else D i
def rsS (S : Nat -> Int) (k : Nat) : Nat -> Int := fun i => if i < k then 0 else S i
theorem rsD_zero (D : Nat -> Int) : rsD D 0 = D := by funext i; simp [rsD]
theorem rsS_zero (S : Nat -> Int) : rsS S 0 = S := by funext i; simp [rsS]
theorem rsD_succ (D : Nat -> Int) (k : Nat) : upd (rsD D k) k 18446744073709551615 = rsD D (k + 1) := by
 funext i; unfold upd rsD
 by_cases e : i = k
 . subst e; simp
 . rw [if_neg e]; simp only [show (i < k + 1) = (i < k) from propext (by omega)]
theorem rsS_succ (S : Nat -> Int) (k : Nat) : upd (rsS S k) k 0 = rsS S (k + 1) := by
 funext i; unfold upd rsS
 by_cases e : i = k
 . subst e; simp
 . rw [if_neg e]; simp only [show (i < k + 1) = (i < k) from propext (by omega)]
theorem CAt.swapDS {w : World} {p m n i : Nat} {t : Int} {D S : Nat -> Int} (h : CAt w p m t n D S) (hi : i < 8) :
 CAt ((w.setCell ⟨p, 2 + i, none⟩ (.int .u64 18446744073709551615)).setCell ⟨p, 10 + i, none⟩ (.int .u32 0)) p m t n (upd D i 18446744073709551615) (upd S i 0) :=
 (h.setD i hi (by omega) (by omega)).setS i hi (by omega) (by omega)
theorem CAt.swapSD {w : World} {p m n i : Nat} {t : Int} {D S : Nat -> Int} (h : CAt w p m t n D S) (hi : i < 8) :
 CAt ((w.setCell ⟨p, 10 + i, none⟩ (.int .u32 0)).setCell ⟨p, 2 + i, none⟩ (.int .u64 18446744073709551615)) p m t n (upd D i 18446744073709551615) (upd S i 0) :=
 (h.setS i hi (by omega) (by omega)).setD i hi (by omega) (by omega)
theorem CAt.drew {w : World} {p m n : Nat} {t : Int} {D S : Nat -> Int} (h : CAt w p m t n D S) : CAt w.drew p m t n D S := h.kept rfl rfl
theorem cReset (t : Int) (n : Nat) (D S : Nat -> Int) (p m : Nat) (w : World) (h : CAt w p m t n D S) :
 Calls Tryz.prog 90 #[.pointer (some ⟨p, 0, none⟩)] w
  fun e w' => e = .returned (.tuple #[]) /\ CAt w' p m t n (rsD D 8) (rsS S 8) /\ Off (· = p) w w' := by
 have H := Hd h
 clear h
 go_enter Tryz.func90, Tryz.ntmps90
 go_wp2_with fail
 go_loopw [5] (fun i wr => ∃ k : Nat, k <= 8 /\ i = .int .i64 k /\ CAt wr p m t n (rsD D k) (rsS S k) /\ Off (· = p) w wr) (fun i _ => 8 - (intOf i).toNat)
 case atStart => exact ⟨0, by omega, rfl, by rw [rsD_zero, rsS_zero]; exact H.out, Off.refl _ _⟩
 case round =>
  obtain ⟨k, hk, rfl, hC, ho⟩ := hrel
  by_cases hlt : k < 8
  . have c1 := hC.cD k hlt
    have c2 := hC.cS k hlt
    have f1 := hC.free (2 + k)
    have f2 := hC.free (10 + k)
    have H1 := Hd (hC.drew.swapDS hlt)
    have H2 := Hd (hC.drew.swapSD hlt)
    have O1 := Hd ((ho.trans (off_drew wr)).trans ((off_set wr.drew p (2 + k) (.int .u64 18446744073709551615)).trans (off_set _ p (10 + k) (.int .u32 0))))
    have O2 := Hd ((ho.trans (off_drew wr)).trans ((off_set wr.drew p (10 + k) (.int .u32 0)).trans (off_set _ p (2 + k) (.int .u64 18446744073709551615))))
    have E1 := Hd (rsD_succ D k)
    have E2 := Hd (rsS_succ S k)
    clear hC ho
    go_wp2_with fail
    go_region
    all_goals
     go_wp2_with fail
     go_roundw
     case rel => exact ⟨k + 1, by omega, by go_num, by rw [<- E1.out, <- E2.out]; first | exact H1.out | exact H2.out, by first | exact O1.out | exact O2.out⟩
     case measure => simp [intOf]; omega
  . obtain rfl : k = 8 := by omega
    go_wp2_with fail
    go_end0
    exact ⟨rfl, hC, ho⟩
def nvD : Nat -> Int := fun _ => 18446744073709551615
def zeS : Nat -> Int := fun _ => 0
theorem CAt.congr {w : World} {p m n : Nat} {t : Int} {D S D' S' : Nat -> Int} (h : CAt w p m t n D S) (hd : ∀ i, i < 8 -> D i = D' i) (hs : ∀ i, i < 8 -> S i = S' i) (hD : okD D') (hS : okS S') : CAt w p m t n D' S' :=
 ⟨by rw [h.cell]; unfold ccl; rw [il_congr _ _ _ _ hd, il_congr _ _ _ _ hs], h.map, h.t0, h.t1, h.n0, h.n1, hD, hS⟩
theorem okD_nv : okD nvD := fun _ => by unfold nvD; omega
theorem okS_ze : okS zeS := fun _ => by unfold zeS; omega
theorem cReset8 (t : Int) (n : Nat) (D S : Nat -> Int) (p m : Nat) (w : World) (h : CAt w p m t n D S) :
 Calls Tryz.prog 90 #[.pointer (some ⟨p, 0, none⟩)] w
  fun e w' => e = .returned (.tuple #[]) /\ CAt w' p m t n nvD zeS /\ Off (· = p) w w' :=
 (cReset t n D S p m w h).mono fun e w' g => ⟨g.1, g.2.1.congr (fun i hi => by unfold rsD nvD; rw [if_pos hi]) (fun i hi => by unfold rsS zeS; rw [if_pos hi]) okD_nv okS_ze, g.2.2⟩
theorem cNewBad (n : Int) (w : World) (h : n < 1 \/ 8 < n) : Calls Tryz.prog 46 #[.int .i64 n] w fun e w' => e = .returned (.tuple #[.pointer none, .int .i64 5]) /\ w = w' := by
 rcases h with h | h
 all_goals
  go_enter Tryz.func46, Tryz.ntmps46
  go_wp2_with fail
  go_ret2
  exact ⟨rfl, rfl⟩
def CNew (w : World) (n : Nat) (e : Ending) (w' : World) : Prop :=
 ∃ p, w.heap.size <= p /\ e = .returned (.tuple #[.pointer (some ⟨p, 0, none⟩), .int .i64 0]) /\ CAt w' p w.heap.size 0 n nvD zeS /\ Below w.heap.size w w'
theorem cNew (n : Nat) (w : World) (h1 : 1 <= n) (h8 : n <= 8) : Calls Tryz.prog 46 #[.int .i64 n] w (CNew w n) := by
 go_enter Tryz.func46, Tryz.ntmps46
 go_wp2_with fail
 refine (cLayout n w h8).mono ?_
 rintro e w1 ⟨rfl, hM, hb⟩
 go_wp2_with fail
 have hC : CAt (w1.alloc (.cells (ccl 0 n zeS zeS w.heap.size).toArray 164)) w1.heap.size w.heap.size 0 n zeS zeS :=
  ⟨blk_new _ _, hM.kept (blk_old _ _ hM.lt), by omega, by omega, h1, h8, fun _ => by unfold zeS; omega, okS_ze⟩
 have hb1 := trA hb (.cells (ccl 0 n zeS zeS w.heap.size).toArray 164)
 have hp : w.heap.size <= w1.heap.size := hb.size
 refine (cReset8 0 n zeS zeS _ _ _ hC).mono ?_
 rintro e w2 ⟨rfl, hC2, ho2⟩
 go_wp2_with fail
 go_ret2
 exact ⟨_, hp, rfl, hC2, Off.toBelow hb1 ho2 (fun _ h => by omega) (Nat.le_refl _)⟩
theorem cHarts (t : Int) (n : Nat) (D S : Nat -> Int) (p m : Nat) (w : World) (h : CAt w p m t n D S) :
 Calls Tryz.prog 120 #[.pointer (some ⟨p, 0, none⟩)] w fun e w' => e = .returned (.int .i64 n) /\ w = w' := by
 have c1 := h.c1
 clear h
 go_enter Tryz.func120, Tryz.ntmps120
 go_wp2_with fail
 go_ret
 exact ⟨rfl, rfl⟩
theorem cTime (t : Int) (n : Nat) (D S : Nat -> Int) (p m : Nat) (w : World) (h : CAt w p m t n D S) :
 Calls Tryz.prog 45 #[.pointer (some ⟨p, 0, none⟩)] w fun e w' => e = .returned (.int .u64 t) /\ w = w' := by
 have c1 := h.c0
 clear h
 go_enter Tryz.func45, Tryz.ntmps45
 go_wp2_with fail
 go_ret
 exact ⟨rfl, rfl⟩
def isHart (n : Nat) (h : Int) : Bool := decide (0 <= h /\ h < (n : Int))
theorem cIsHart (h t : Int) (n : Nat) (D S : Nat -> Int) (p m : Nat) (w : World) (hc : CAt w p m t n D S) :
 Calls Tryz.prog 192 #[.pointer (some ⟨p, 0, none⟩), .int .i64 h] w fun e w' => e = .returned (.bool (isHart n h)) /\ w = w' := by
 by_cases h0 : 0 <= h
 . by_cases h1 : h < (n : Int)
   . rw [show isHart n h = true from decide_eq_true ⟨h0, h1⟩]
     go_enter Tryz.func192, Tryz.ntmps192
     go_wp2_with (go_at_call 120; refine (cHarts _ _ _ _ _ _ _ hc).mono ?_; rintro e w' ⟨rfl, rfl⟩)
     go_ret
     exact ⟨rfl, rfl⟩
   . rw [show isHart n h = false from decide_eq_false (fun e => h1 e.2)]
     go_enter Tryz.func192, Tryz.ntmps192
     go_wp2_with (go_at_call 120; refine (cHarts _ _ _ _ _ _ _ hc).mono ?_; rintro e w' ⟨rfl, rfl⟩)
     go_ret
     exact ⟨ret_bool (decide_eq_false (by omega)), rfl⟩
 . rw [show isHart n h = false from decide_eq_false (fun e => h0 e.1)]
   go_enter Tryz.func192, Tryz.ntmps192
   go_wp2_with fail
   go_ret
   exact ⟨rfl, rfl⟩
theorem cTick (v t : Int) (n : Nat) (D S : Nat -> Int) (p m : Nat) (w : World) (hc : CAt w p m t n D S) (v0 : 0 <= v) (v1 : v < 18446744073709551616) :
 Calls Tryz.prog 257 #[.pointer (some ⟨p, 0, none⟩), .int .u64 v] w fun e w' => e = .returned (.tuple #[]) /\ CAt w' p m (addS t v) n D S /\ Off (· = p) w w' := by
 have c := hc.c0
 have f := hc.free 0
 have t0 := hc.t0
 have t1 := hc.t1
 have b := addS_bounds t0 t1 v0 v1
 go_enter Tryz.func257, Tryz.ntmps257
 go_wp2_with (go_at_call 261; refine (Add _ _ _ t0 t1 v0 v1).mono ?_; rintro e w' ⟨rfl, rfl⟩)
 go_end0
 exact ⟨rfl, hc.setT b.1 b.2, off_set _ _ _ _⟩
def cLn (t : Int) (n : Nat) (D : Nat -> Int) (h : Int) : Bool := isHart n h && decide (D h.toNat <= t)
def cSf (n : Nat) (S : Nat -> Int) (h : Int) : Bool := isHart n h && (S h.toNat == 1)
theorem cLine1 (t : Int) (n k : Nat) (D S : Nat -> Int) (p m a b : Nat) (w : World) (hc : CAt w p m t n D S) (hk : k < 8) (ha : w.cell? ⟨a, 0, none⟩ = some (.pointer (some ⟨p, 0, none⟩))) (hb : w.cell? ⟨b, 0, none⟩ = some (.int .i64 k)) :
 Calls Tryz.prog 186 #[.pointer (some ⟨a, 0, none⟩), .pointer (some ⟨b, 0, none⟩)] w fun e w' => e = .returned (.bool (decide (D k <= t))) /\ ∃ j, w' = w.drewN j := by
 have c0 := hc.c0
 have c1 := hc.cD k hk
 have hl := hc.ltp
 clear hc
 go_enter Tryz.func186, Tryz.ntmps186
 go_wp2_with fail
 go_quiet (fail)
 go_wp2_with fail
 go_ret
 exact ⟨rfl, nq, rfl⟩
theorem cSoft1 (t : Int) (n k : Nat) (D S : Nat -> Int) (p m a b : Nat) (w : World) (hc : CAt w p m t n D S) (hk : k < 8) (ha : w.cell? ⟨a, 0, none⟩ = some (.pointer (some ⟨p, 0, none⟩))) (hb : w.cell? ⟨b, 0, none⟩ = some (.int .i64 k)) :
 Calls Tryz.prog 187 #[.pointer (some ⟨a, 0, none⟩), .pointer (some ⟨b, 0, none⟩)] w fun e w' => e = .returned (.bool (S k == 1)) /\ ∃ j, w' = w.drewN j := by
 have c1 := hc.cS k hk
 have hl := hc.ltp
 clear hc
 go_enter Tryz.func187, Tryz.ntmps187
 go_wp2_with fail
 go_quiet (fail)
 go_wp2_with fail
 go_ret
 exact ⟨rfl, nq, rfl⟩
theorem cAskLine (t h : Int) (n : Nat) (D S : Nat -> Int) (p m a b : Nat) (w : World) (hc : CAt w p m t n D S) (ha : w.cell? ⟨a, 0, none⟩ = some (.pointer (some ⟨p, 0, none⟩))) (hb : w.cell? ⟨b, 0, none⟩ = some (.int .i64 h)) :
 Calls Tryz.prog 185 #[.pointer (some ⟨p, 0, none⟩), .int .i64 h, .func (.func 186) #[] #[.pointer (some ⟨a, 0, none⟩), .pointer (some ⟨b, 0, none⟩)]] w
  fun e w' => e = .returned (.bool (cLn t n D h)) /\ Below w.heap.size w w' := by
 have hn := hc.n1
 cases hq : isHart n h
 . rw [show cLn t n D h = false by unfold cLn; rw [hq]; rfl]
   have HB := Hd hq
   clear hq
   go_enter Tryz.func185, Tryz.ntmps185
   go_wp2_with (go_at_call 192; refine (cIsHart _ _ _ _ _ _ _ _ hc).mono ?_; rw [HB.out]; rintro e w' ⟨rfl, rfl⟩)
   go_ret
   exact ⟨rfl, tr0 w⟩
 . have hh : 0 <= h /\ h < (n : Int) := by unfold isHart at hq; simpa using hq
   obtain ⟨k, rfl⟩ := Int.eq_ofNat_of_zero_le hh.1
   have hk : k < 8 := by omega
   rw [show cLn t n D (k : Int) = decide (D k <= t) by unfold cLn; rw [hq]; rfl]
   have HB := Hd hq
   clear hq hh
   go_enter Tryz.func185, Tryz.ntmps185
   go_wp2_with (go_at_call 192; refine (cIsHart _ _ _ _ _ _ _ _ hc).mono ?_; rw [HB.out]; rintro e w' ⟨rfl, rfl⟩)
   refine (cLine1 t n k D S p m a b _ hc hk ha hb).mono ?_
   rintro e w' ⟨rfl, j, rfl⟩
   go_wp2_with fail
   go_ret
   exact ⟨rfl, trN (tr0 w) _⟩
theorem cLine (t h : Int) (n : Nat) (D S : Nat -> Int) (p m : Nat) (w : World) (hc : CAt w p m t n D S) :
 Calls Tryz.prog 121 #[.pointer (some ⟨p, 0, none⟩), .int .i64 h] w fun e w' => e = .returned (.bool (cLn t n D h)) /\ Below w.heap.size w w' := by
 have hmf : ∀ (fn : Fn) (first cap : Array Value) (w : World), (Instr.makeFunc fn first cap).run Tryz.prog w = .ok (.func fn first cap) w := fun _ _ _ _ => rfl
 have hc2 := hc.below (trA (trA (tr0 w) (.cells #[.pointer (some ⟨p, 0, none⟩)] 69)) (.cells #[.int .i64 h] 3))
 have h0 := blk_cell (b2_0 w (.cells #[.pointer (some ⟨p, 0, none⟩)] 69) (.cells #[.int .i64 h] 3)) 0
 have h1 := blk_cell (b2_1 w (.cells #[.pointer (some ⟨p, 0, none⟩)] 69) (.cells #[.int .i64 h] 3)) 0
 simp only [List.getElem?_toArray, List.getElem?_cons_zero] at h0 h1
 have H2 := Hd hc2
 clear hc2 hc
 go_enter Tryz.func121, Tryz.ntmps121
 go_wp2_with fail
 refine (cAskLine t h n D S p m _ _ _ H2.out h0 h1).mono ?_
 rintro e w' ⟨rfl, hb⟩
 go_wp2_with fail
 go_ret
 exact ⟨rfl, tr (trA (trA (tr0 w) _) _) hb⟩
theorem cAskSoft (t h : Int) (n : Nat) (D S : Nat -> Int) (p m a b : Nat) (w : World) (hc : CAt w p m t n D S) (ha : w.cell? ⟨a, 0, none⟩ = some (.pointer (some ⟨p, 0, none⟩))) (hb : w.cell? ⟨b, 0, none⟩ = some (.int .i64 h)) :
 Calls Tryz.prog 185 #[.pointer (some ⟨p, 0, none⟩), .int .i64 h, .func (.func 187) #[] #[.pointer (some ⟨a, 0, none⟩), .pointer (some ⟨b, 0, none⟩)]] w
  fun e w' => e = .returned (.bool (cSf n S h)) /\ Below w.heap.size w w' := by
 have hn := hc.n1
 cases hq : isHart n h
 . rw [show cSf n S h = false by unfold cSf; rw [hq]; rfl]
   have HB := Hd hq
   clear hq
   go_enter Tryz.func185, Tryz.ntmps185
   go_wp2_with (go_at_call 192; refine (cIsHart _ _ _ _ _ _ _ _ hc).mono ?_; rw [HB.out]; rintro e w' ⟨rfl, rfl⟩)
   go_ret
   exact ⟨rfl, tr0 w⟩
 . have hh : 0 <= h /\ h < (n : Int) := by unfold isHart at hq; simpa using hq
   obtain ⟨k, rfl⟩ := Int.eq_ofNat_of_zero_le hh.1
   have hk : k < 8 := by omega
   rw [show cSf n S (k : Int) = (S k == 1) by unfold cSf; rw [hq]; rfl]
   have HB := Hd hq
   clear hq hh
   go_enter Tryz.func185, Tryz.ntmps185
   go_wp2_with (go_at_call 192; refine (cIsHart _ _ _ _ _ _ _ _ hc).mono ?_; rw [HB.out]; rintro e w' ⟨rfl, rfl⟩)
   refine (cSoft1 t n k D S p m a b _ hc hk ha hb).mono ?_
   rintro e w' ⟨rfl, j, rfl⟩
   go_wp2_with fail
   go_ret
   exact ⟨rfl, trN (tr0 w) _⟩
theorem cSoft (t h : Int) (n : Nat) (D S : Nat -> Int) (p m : Nat) (w : World) (hc : CAt w p m t n D S) :
 Calls Tryz.prog 122 #[.pointer (some ⟨p, 0, none⟩), .int .i64 h] w fun e w' => e = .returned (.bool (cSf n S h)) /\ Below w.heap.size w w' := by
 have hmf : ∀ (fn : Fn) (first cap : Array Value) (w : World), (Instr.makeFunc fn first cap).run Tryz.prog w = .ok (.func fn first cap) w := fun _ _ _ _ => rfl
 have hc2 := hc.below (trA (trA (tr0 w) (.cells #[.pointer (some ⟨p, 0, none⟩)] 69)) (.cells #[.int .i64 h] 3))
 have h0 := blk_cell (b2_0 w (.cells #[.pointer (some ⟨p, 0, none⟩)] 69) (.cells #[.int .i64 h] 3)) 0
 have h1 := blk_cell (b2_1 w (.cells #[.pointer (some ⟨p, 0, none⟩)] 69) (.cells #[.int .i64 h] 3)) 0
 simp only [List.getElem?_toArray, List.getElem?_cons_zero] at h0 h1
 have H2 := Hd hc2
 clear hc2 hc
 go_enter Tryz.func122, Tryz.ntmps122
 go_wp2_with fail
 refine (cAskSoft t h n D S p m _ _ _ H2.out h0 h1).mono ?_
 rintro e w' ⟨rfl, hb⟩
 go_wp2_with fail
 go_ret
 exact ⟨rfl, tr (trA (trA (tr0 w) _) _) hb⟩
end Go.Proofs.YtpojmmgokgamgaaGreat.B
namespace Go.Proofs.YtpojmmgokgamgaaGreat.B
def stB (a wr cl v : Int) (i : Nat) : Bool := if (bit cl i && bit v i) = true then false else if bit wr i = true then bit v i else bit a i
def stV (a wr cl v : Int) : Int := ((ofBits (stB a wr cl v) 32 : Nat) : Int)
def ob (f : Nat -> Bool) (k : Nat) : Int := ((ofBits f k : Nat) : Int)
def un (k : Nat) : Int := 2 ^ k % 4294967296
theorem ob_bounds (f : Nat -> Bool) (k : Nat) (h : k <= 32) : 0 <= ob f k /\ ob f k < 4294967296 := by
 have a := ofBits_lt f k
 have b : 2 ^ k <= 2 ^ 32 := Nat.pow_le_pow_right (by decide) h
 unfold ob; omega
theorem un_bounds (k : Nat) : 0 <= un k /\ un k < 4294967296 := by unfold un; omega
theorem un_pow (k : Nat) (h : k < 32) : un k = ((2 ^ k : Nat) : Int) := by
 have b : 2 ^ k <= 2 ^ 31 := Nat.pow_le_pow_right (by decide) (by omega)
 unfold un; rw [<- cast_two_pow]
 generalize 2 ^ k = x at b ⊢
 omega
theorem ob_yes (f : Nat -> Bool) (k : Nat) (h : k < 32) (hf : f k = true) : ob f (k + 1) = ob f k + un k := by
 rw [un_pow k h]; unfold ob; rw [ofBits, if_pos hf]; push_cast; rfl
theorem ob_no (f : Nat -> Bool) (k : Nat) (hf : f k = false) : ob f (k + 1) = ob f k := by
 unfold ob; rw [ofBits, if_neg (by rw [hf]; decide)]; simp
theorem bit_testBit (n : Int) (i : Nat) (h : 0 <= n) : bit n i = n.toNat.testBit i := by
 obtain ⟨m, rfl⟩ := Int.eq_ofNat_of_zero_le h
 rw [Int.toNat_natCast, Nat.testBit_eq_decide_div_mod_eq]
 unfold bit
 have : ((m : Int) / 2 ^ i % 2) = ((m / 2 ^ i % 2 : Nat) : Int) := by push_cast; rfl
 rw [this]
 exact decide_eq_decide.2 (by omega)
theorem bit_ofBits (f : Nat -> Bool) (i : Nat) : bit ((ofBits f 32 : Nat) : Int) i = (decide (i < 32) && f i) := by
 rw [bit_testBit _ _ (by omega), Int.toNat_natCast, ofBits_testBit]
theorem bit_high (n : Int) (i : Nat) (h0 : 0 <= n) (h1 : n < 4294967296) (hi : 32 <= i) : bit n i = false := by
 rw [bit_testBit n i h0]
 apply Nat.testBit_lt_two_pow
 have : 2 ^ 32 <= 2 ^ i := Nat.pow_le_pow_right (by decide) hi
 omega
theorem same_bits {a b : Int} (a0 : 0 <= a) (a1 : a < 4294967296) (b0 : 0 <= b) (b1 : b < 4294967296) (h : ∀ i, i < 32 -> bit a i = bit b i) : a = b := by
 have : a.toNat = b.toNat := by
  apply Nat.eq_of_testBit_eq
  intro i
  rw [<- bit_testBit a i a0, <- bit_testBit b i b0]
  by_cases hi : i < 32
  . exact h i hi
  . rw [bit_high a i a0 a1 (by omega), bit_high b i b0 b1 (by omega)]
 omega
theorem andNot_bounds (a b : Int) (a0 : 0 <= a) (a1 : a < 4294967296) (b0 : 0 <= b) (b1 : b < 4294967296) : 0 <= bits BinOp.andNot IntKind.u32 a b /\ bits BinOp.andNot IntKind.u32 a b < 4294967296 := by
 rw [u32_andNot _ _ a0 a1 b0 b1]
 have : a.toNat &&& (4294967295 - b.toNat) <= a.toNat := Nat.and_le_left
 omega
theorem or_nat (a b : Int) (a0 : 0 <= a) (a1 : a < 4294967296) (b0 : 0 <= b) (b1 : b < 4294967296) : bits BinOp.or IntKind.u32 a b = ((a.toNat ||| b.toNat : Nat) : Int) := by
 obtain ⟨m, rfl⟩ := Int.eq_ofNat_of_zero_le a0
 obtain ⟨n, rfl⟩ := Int.eq_ofNat_of_zero_le b0
 rw [u32_or_nat _ _ (by omega) (by omega)]; simp
theorem or_bounds (a b : Int) (a0 : 0 <= a) (a1 : a < 4294967296) (b0 : 0 <= b) (b1 : b < 4294967296) : 0 <= bits BinOp.or IntKind.u32 a b /\ bits BinOp.or IntKind.u32 a b < 4294967296 := by
 rw [or_nat _ _ a0 a1 b0 b1]
 have : a.toNat ||| b.toNat < 2 ^ 32 := Nat.or_lt_two_pow (by omega) (by omega)
 omega
theorem bit_andNot (a b : Int) (i : Nat) (hi : i < 32) (a0 : 0 <= a) (a1 : a < 4294967296) (b0 : 0 <= b) (b1 : b < 4294967296) : bit (bits BinOp.andNot IntKind.u32 a b) i = (bit a i && !bit b i) := by
 rw [u32_andNot _ _ a0 a1 b0 b1, bit_testBit _ _ (by omega), Int.toNat_natCast, Nat.testBit_and, bit_testBit _ _ a0, bit_testBit _ _ b0,
  show 4294967295 - b.toNat = 2 ^ 32 - (b.toNat + 1) from by omega, Nat.testBit_two_pow_sub_succ (by omega)]
 simp [hi]
theorem bit_zero (i : Nat) : bit 0 i = false := by unfold bit; simp
theorem toNat_div_two (n : Int) (i : Nat) (h : 0 <= n) : ((n.toNat / 2 ^ i % 2 : Nat) : Int) = n / 2 ^ i % 2 := by
 have h1 : n = ((n.toNat : Nat) : Int) := by omega
 have h2 : (2 : Int) ^ i = ((2 ^ i : Nat) : Int) := by push_cast; rfl
 conv => rhs; rw [h1, h2]
 rw [<- Int.natCast_ediv]; omega
theorem field_one (n : Int) (k : Nat) (h0 : 0 <= n) (hk : k < 32) : (field n (k : Int) 1 == 1) = bit n k := by
 unfold field bit
 rw [if_pos (by unfold inw; simp; omega), Int.toNat_natCast]
 have h : ((n.toNat / 2 ^ k % 2 ^ min (1 : Int).toNat 32 : Nat) : Int) = n / 2 ^ k % 2 := by
  have : min (1 : Int).toNat 32 = 1 := by decide
  rw [this, Nat.pow_one]; exact toNat_div_two n k h0
 rw [h]
 by_cases e : n / 2 ^ k % 2 = 1
 . rw [e]; rfl
 . rw [beq_eq_false_iff_ne.2 e, decide_eq_false e]
def tk (b : Bool) : Int := cond b 1 0
theorem bit_put_one (n : Int) (k : Nat) (b : Bool) (hk : k < 32) (h0 : 0 <= n) (i : Nat) (hi : i < 32) : bit (put n (k : Int) 1 (tk b)) i = if i = k then b else bit n i := by
 unfold put
 rw [if_pos (by unfold inw; simp; omega), bit_ofBits, decide_eq_true hi, Bool.true_and]
 unfold putBit
 rw [Int.toNat_natCast, show (1 : Int).toNat = 1 from rfl]
 by_cases e : i = k
 . subst e
   rw [if_pos (by omega), if_pos rfl, Nat.sub_self]
   cases b <;> rfl
 . rw [if_neg (by omega), if_neg e, bit_testBit n i h0]
theorem field_bounds (n low width : Int) (h0 : 0 <= n) (h1 : n < 4294967296) : 0 <= field n low width /\ field n low width < 4294967296 := by
 unfold field; split
 . have a : n.toNat / 2 ^ low.toNat % 2 ^ min width.toNat 32 <= n.toNat := Nat.le_trans (Nat.mod_le _ _) (Nat.div_le_self _ _)
   omega
 . omega
theorem put_bounds (n low width v : Int) (h0 : 0 <= n) (h1 : n < 4294967296) : 0 <= put n low width v /\ put n low width v < 4294967296 := by
 unfold put; split
 . have := ofBits_lt (putBit n low width v) 32
   have e32 : (2 : Nat) ^ 32 = 4294967296 := by decide
   omega
 . omega
end Go.Proofs.YtpojmmgokgamgaaGreat.B
