/- A part of the proof of a law of layer 12: ac. -/
import Derived.Test.YtpojmmgokgamgaaGreatZYab
import Derived.Deep.Cut
set_option linter.unusedVariables false
set_option linter.unusedSimpArgs false
set_option maxHeartbeats 12800000
set_option maxRecDepth 100000
namespace Go.Proofs.YtpojmmgokgamgaaGreat.B
open Go.Proofs.Tryz
open List renaming getElem?_toArray -> y0q
open Go.ChangeShapes Go.WideShapes Go.RowKit Go.Sort Go.MapKept
def mZ (t : Int) (n : Nat) (D S : Nat -> Int) (m : Nat) : List Value := [.int .u64 t, .int .i64 n] ++ (il .u64 D 8 ++ (il .u32 S 8 ++ [.map (some m)]))
theorem sB (t : Int) (n : Nat) (D S : Nat -> Int) (m : Nat) : (mZ t n D S m).length = 19 := by simp [mZ, bV]
theorem aNJ (t : Int) (n : Nat) (D S : Nat -> Int) (m i : Nat) (h : i < 8) : (mZ t n D S m)[2 + i]? = some (.int .u64 (D i)) := by
 unfold mZ; rw [eB _ _ 2 i (by rfl), mL _ _ _ (by rw [bV]; exact h), oC _ _ _ _ h]
theorem aMr (t : Int) (n : Nat) (D S : Nat -> Int) (m i : Nat) (h : i < 8) : (mZ t n D S m)[10 + i]? = some (.int .u32 (S i)) := by
 unfold mZ; rw [show 10 + i = 2 + (8 + i) by omega, eB _ _ 2 _ (by rfl), eB _ _ 8 i (by rw [bV]), mL _ _ _ (by rw [bV]; exact h), oC _ _ _ _ h]
theorem aJT (t : Int) (n : Nat) (D S : Nat -> Int) (m : Nat) : (mZ t n D S m)[18]? = some (.map (some m)) := by
 unfold mZ; rw [show 18 = 2 + (8 + (8 + 0)) by omega, eB _ _ 2 _ (by rfl), eB _ _ 8 _ (by rw [bV]), eB _ _ 8 _ (by rw [bV])]; rfl
theorem aGF (t : Int) (n : Nat) (D S : Nat -> Int) (m : Nat) (v : Int) : (mZ t n D S m).set 0 (.int .u64 v) = mZ v n D S m := rfl
theorem aGy (t : Int) (n : Nat) (D S : Nat -> Int) (m i : Nat) (v : Int) (h : i < 8) : (mZ t n D S m).set (2 + i) (.int .u64 v) = mZ t n (upd D i v) S m := by
 unfold mZ; rw [fU _ _ 2 i _ (by rfl), gZ _ _ _ _ (by rw [bV]; exact h), sM]
theorem aGY (t : Int) (n : Nat) (D S : Nat -> Int) (m i : Nat) (v : Int) (h : i < 8) : (mZ t n D S m).set (10 + i) (.int .u32 v) = mZ t n D (upd S i v) m := by
 unfold mZ; rw [show 10 + i = 2 + (8 + i) by omega, fU _ _ 2 _ _ (by rfl), fU _ _ 8 i _ (by rw [bV]), gZ _ _ _ _ (by rw [bV]; exact h), sM]
theorem aFP (t : Int) (n : Nat) (D S : Nat -> Int) (m k : Nat) : (mZ t n D S m).set 18 (.map (some k)) = mZ t n D S k := by
 unfold mZ; rw [show 18 = 2 + (8 + (8 + 0)) by omega, fU _ _ 2 _ _ (by rfl), fU _ _ 8 _ _ (by rw [bV]), fU _ _ 8 _ _ (by rw [bV])]; rfl
theorem aHp (t : Int) (n : Nat) (D S : Nat -> Int) (m : Nat) : ∀ v ∈ mZ t n D S m, v.oneCell' = true := by
 intro v h
 unfold mZ at h
 simp only [List.mem_append, List.mem_cons, List.not_mem_nil, or_false] at h
 rcases h with (rfl | rfl) | h | h | rfl
 . rfl
 . rfl
 . exact tT _ _ _ v h
 . exact tT _ _ _ v h
 . rfl
structure dO (w : World) (p m : Nat) (t : Int) (n : Nat) (D S : Nat -> Int) : Prop where
 cell : w.heap[p]? = some (.cells (mZ t n D S m).toArray 164 (0, 0))
 map : eL w ek lF m (oJ n)
 t0 : 0 <= t
 t1 : t < 18446744073709551616
 n0 : 1 <= n
 n1 : n <= 8
 d : xZ D
 s : okS S
section
variable {w w' : World} {p m n : Nat} {t : Int} {D S : Nat -> Int}
theorem dO.ltp (h : dO w p m t n D S) : p < w.heap.size := lt_of_block h.cell
theorem dO.ltm (h : dO w p m t n D S) : m < w.heap.size := h.map.lt
theorem dO.ne (h : dO w p m t n D S) : p ≠ m := fun e => by obtain ⟨_, _, hb, _⟩ := h.map; rw [<- e, h.cell] at hb; cases hb
theorem dO.kept (h : dO w p m t n D S) (h1 : w'.heap[p]? = w.heap[p]?) (h2 : w'.heap[m]? = w.heap[m]?) : dO w' p m t n D S :=
 ⟨h1.trans h.cell, h.map.kept h2, h.t0, h.t1, h.n0, h.n1, h.d, h.s⟩
theorem dO.off {X : Nat -> Prop} (h : dO w p m t n D S) (ho : aF X w w') (h1 : ¬ X p) (h2 : ¬ X m) : dO w' p m t n D S :=
 h.kept (ho.block p h.ltp h1) (ho.block m h.ltm h2)
theorem dO.below (h : dO w p m t n D S) (ho : Below w.heap.size w w') : dO w' p m t n D S := h.kept (ho.block p h.ltp) (ho.block m h.ltm)
theorem dO.c0 (h : dO w p m t n D S) : w.cell? ⟨p, 0, none⟩ = some (.int .u64 t) := by have := aA h.cell 0; simpa [mZ] using this
theorem dO.c1 (h : dO w p m t n D S) : w.cell? ⟨p, 1, none⟩ = some (.int .i64 n) := by have := aA h.cell 1; simpa [mZ] using this
theorem dO.cD (h : dO w p m t n D S) (i : Nat) (hi : i < 8) : w.cell? ⟨p, 2 + i, none⟩ = some (.int .u64 (D i)) := by
 have := aA h.cell (2 + i); rw [this, y0q]; exact aNJ _ _ _ _ _ _ hi
theorem dO.cS (h : dO w p m t n D S) (i : Nat) (hi : i < 8) : w.cell? ⟨p, 10 + i, none⟩ = some (.int .u32 (S i)) := by
 have := aA h.cell (10 + i); rw [this, y0q]; exact aMr _ _ _ _ _ _ hi
theorem dO.cM (h : dO w p m t n D S) : w.cell? ⟨p, 18, none⟩ = some (.map (some m)) := by
 have := aA h.cell 18; rw [this, y0q]; exact aJT _ _ _ _ _
theorem dO.free (h : dO w p m t n D S) (j : Nat) : w.frozen? ⟨p, j, none⟩ = false := aN h.cell j
theorem dO.set (h : dO w p m t n D S) (j : Nat) (v : Value) {t' : Int} {D' S' : Nat -> Int} (he : (mZ t n D S m).set j v = mZ t' n D' S' m) (ht : 0 <= t' /\ t' < 18446744073709551616) (hd : xZ D') (hs : okS S') :
 dO (w.setCell ⟨p, j, none⟩ v) p m t' n D' S' :=
 ⟨by rw [aS h.cell, <- he]; simp, h.map.kept (Below.heap_setCell w ⟨p, j, none⟩ v m (fun e => h.ne e.symm)), ht.1, ht.2, h.n0, h.n1, hd, hs⟩
theorem dO.setT (h : dO w p m t n D S) {v : Int} (v0 : 0 <= v) (v1 : v < 18446744073709551616) : dO (w.setCell ⟨p, 0, none⟩ (.int .u64 v)) p m v n D S :=
 h.set 0 _ (aGF _ _ _ _ _ _) ⟨v0, v1⟩ h.d h.s
theorem dO.setD (h : dO w p m t n D S) (i : Nat) {v : Int} (hi : i < 8) (v0 : 0 <= v) (v1 : v < 18446744073709551616) : dO (w.setCell ⟨p, 2 + i, none⟩ (.int .u64 v)) p m t n (upd D i v) S :=
 h.set _ _ (aGy _ _ _ _ _ _ _ hi) ⟨h.t0, h.t1⟩ (h.d.upd i v0 v1) h.s
theorem dO.setS (h : dO w p m t n D S) (i : Nat) {v : Int} (hi : i < 8) (v0 : 0 <= v) (v1 : v < 4294967296) : dO (w.setCell ⟨p, 10 + i, none⟩ (.int .u32 v)) p m t n D (upd S i v) :=
 h.set _ _ (aGY _ _ _ _ _ _ _ hi) ⟨h.t0, h.t1⟩ h.d (h.s.upd i v0 v1)
end
theorem gW {B : Nat} {w w' : World} (h : Below B w w') (b : Nat) (o : Obj) (hb : B <= b) : Below B w (Go.ChangeMaps.setBlock w' b o) :=
 ⟨h.os, h.tape, h.output, by simpa [Go.ChangeMaps.setBlock] using h.size, fun k hk => by
  have : b ≠ k := by omega
  simp only [Go.ChangeMaps.setBlock, Array.getElem?_setIfInBounds, if_neg this]; exact h.block k hk⟩
theorem aOo (w : World) : ∃ es c w', (Instr.mapUpdate 162 (.map (some w.heap.size)) (ek 49144) (eF 3 0)).run prog (w.alloc (.map #[] 0)).drew = .ok () w' /\
 (Instr.mapUpdate 162 (.map (some w.heap.size)) (ek 49148) (eF 4 0)).run prog w' = .ok () es /\ eL es ek lF w.heap.size (oJ 0) /\ Below w.heap.size w es /\ c = () := by
 have M0 : eL (w.alloc (.map #[] 0)).drew ek lF w.heap.size [] := (qO w ek lF).kept rfl
 obtain ⟨e1, c1, h1, m1⟩ := M0.update fK underlying162 49144 (eF 3 0) ⟨by omega, by omega⟩
 obtain ⟨e2, c2, h2, m2⟩ := m1.update fK underlying162 49148 (eF 4 0) ⟨by omega, by omega⟩
 refine ⟨_, (), _, h1, h2, m2.perm ?_, ?_, rfl⟩
 . simp [mO, oJ]
 . exact gW (gW (jH (aE (aI w) _)) _ _ (Nat.le_refl _)) _ _ (Nat.le_refl _)
theorem aNB (w : World) : ∃ es c w', (Instr.mapUpdate 162 (.map (some w.heap.size)) (ek 49148) (eF 4 0)).run prog (w.alloc (.map #[] 0)).drew = .ok () w' /\
 (Instr.mapUpdate 162 (.map (some w.heap.size)) (ek 49144) (eF 3 0)).run prog w' = .ok () es /\ eL es ek lF w.heap.size (oJ 0) /\ Below w.heap.size w es /\ c = () := by
 have M0 : eL (w.alloc (.map #[] 0)).drew ek lF w.heap.size [] := (qO w ek lF).kept rfl
 obtain ⟨e1, c1, h1, m1⟩ := M0.update fK underlying162 49148 (eF 4 0) ⟨by omega, by omega⟩
 obtain ⟨e2, c2, h2, m2⟩ := m1.update fK underlying162 49144 (eF 3 0) ⟨by omega, by omega⟩
 refine ⟨_, (), _, h1, h2, m2.perm ?_, ?_, rfl⟩
 . simp only [mO, oJ]; exact List.Perm.swap _ _ _
 . exact gW (gW (jH (aE (aI w) _)) _ _ (Nat.le_refl _)) _ _ (Nat.le_refl _)
theorem aHP (k : Nat) (h : k <= 7) : mO (4 * (k : Int)) (eF 0 k) (oJ k) = (4 * (k : Int), eF 0 k) :: oJ k :=
 tX fun p hp => by rcases yD k p hp with g | g | ⟨j, hj, g | g | g⟩ <;> omega
theorem vJ {P : Prop} (h : P := by
 rcases List.mem_cons.1 hp with rfl | hp
 . show (4 * (k : Int)) ≠ _; omega
 . rcases yD k p hp with g | g | ⟨j, hj, g | g | g⟩ <;> omega
 ) : P := h
theorem aGK (k : Nat) (h : k <= 7) : mO (16384 + 8 * (k : Int)) (eF 1 k) ((4 * (k : Int), eF 0 k) :: oJ k) = (16384 + 8 * (k : Int), eF 1 k) :: (4 * (k : Int), eF 0 k) :: oJ k :=
 tX fun p hp => by
  exact vJ
theorem aFa (k : Nat) (h : k <= 7) : mO (16384 + 8 * (k : Int) + 4) (eF 2 k) ((16384 + 8 * (k : Int), eF 1 k) :: (4 * (k : Int), eF 0 k) :: oJ k) = oJ (k + 1) :=
 tX fun p hp => by
  rcases List.mem_cons.1 hp with rfl | hp
  . show (16384 + 8 * (k : Int)) ≠ _; omega
  . exact vJ
def aEg (w w' : World) (n : Nat) : Prop := eL w' ek lF w.heap.size (oJ n) /\ Below w.heap.size w w'
theorem aH5 (n : Nat) (w : World) (hn : n <= 8) :
 Calls prog 89 #[.int .i64 n] w fun e w' => e = .returned (.map (some w.heap.size)) /\ aEg w w' n := by
 have hmm := @run_makeMap prog
 obtain ⟨X, _, V, hx1, hx2, hX, hbX, _⟩ := aOo w
 obtain ⟨Y, _, Z, hy1, hy2, hY, hbY, _⟩ := aNB w
 have HX := Hd hX
 have HY := Hd hY
 have HXb := Hd hbX
 have HYb := Hd hbY
 clear hX hY hbX hbY
 unfold ek eF at hx1 hx2 hy1 hy2
 go_enter func89, ntmps89
 go_upto_region 1 with (fail)
 refine qS fun K1 hK1 => ?_
 go_cut [3] from 12 (fun v w' => v = .map (some w.heap.size) /\ aEg w w' 0)
 case first =>
  go_region
  all_goals
   go_wp2_with fail
   go_meet
   case rel => exact ⟨rfl, by first | exact ⟨HX.out, HXb.out⟩ | exact ⟨HY.out, HYb.out⟩⟩
 case rest =>
  obtain ⟨rfl, hcut⟩ := hcut
  refine hK1 _ _ ?_
  clear hK1 hx1 hx2 hy1 hy2 HX HY HXb HYb
  go_wp2_with fail
  go_loopw [14] (fun i wr => ∃ k : Nat, k <= n /\ i = .int .i64 k /\ aEg w wr k) (fun i _ => n - (intOf i).toNat)
  case atStart => exact ⟨0, by omega, rfl, hcut⟩
  case round =>
   clear hcut
   obtain ⟨k, hk, rfl, hM, hb⟩ := hrel
   by_cases hlt : k < n
   . have e1 : (8 * (k : Int)) % 4294967296 = 8 * k := by omega
     have g1 := aHP k (by omega)
     have g2 := aGK k (by omega)
     have g3 := aFa k (by omega)
     have G1 := Hd g1
     have G2 := Hd g2
     have G3 := Hd g3
     clear g1 g2 g3
     go_wp2_with (first
      | (at_mapUpdate; refine nY fK rfl _ _ _ _ rfl underlying162 rfl hM (4 * (k : Int)) (eF 0 k) rfl rfl ⟨by omega, by omega⟩ ?_; intro w3 hM3 ho3; rw [G1.out] at hM3)
      | (at_mapUpdate; refine nY fK rfl _ _ _ _ rfl underlying162 rfl hM3 (16384 + 8 * (k : Int)) (eF 1 k) rfl rfl ⟨by omega, by omega⟩ ?_; intro w4 hM4 ho4; rw [G2.out] at hM4)
      | (at_mapUpdate; refine nY fK rfl _ _ _ _ rfl underlying162 rfl hM4 (16384 + 8 * (k : Int) + 4) (eF 2 k) rfl rfl ⟨by omega, by omega⟩ ?_; intro w5 hM5 ho5; rw [G3.out] at hM5))
     go_roundw
     case rel => exact ⟨k + 1, by omega, by go_num, hM5, aF.toBelow (aF.toBelow (aF.toBelow hb ho3 (fun _ h => by omega) (Nat.le_refl _)) ho4 (fun _ h => by omega) (Nat.le_refl _)) ho5 (fun _ h => by omega) (Nat.le_refl _)⟩
     case measure => simp [intOf]; omega
   . obtain rfl : k = n := by omega
     go_wp2_with fail
     go_ret
     exact ⟨rfl, hM, hb⟩
def rsD (D : Nat -> Int) (k : Nat) : Nat -> Int := fun i => if i < k then 18446744073709551615 else D i
def rsS (S : Nat -> Int) (k : Nat) : Nat -> Int := fun i => if i < k then 0 else S i
theorem aFW (D : Nat -> Int) : rsD D 0 = D := by funext i; simp [rsD]
theorem aFl (S : Nat -> Int) : rsS S 0 = S := by funext i; simp [rsS]
theorem pV {P : Prop} (h : P := by
 by_cases e : i = k
 . subst e; simp
 . rw [if_neg e]; simp only [show (i < k + 1) = (i < k) from propext (by omega)]
 ) : P := h
theorem aF4 (D : Nat -> Int) (k : Nat) : upd (rsD D k) k 18446744073709551615 = rsD D (k + 1) := by
 funext i; unfold upd rsD
 exact pV
theorem aGl (S : Nat -> Int) (k : Nat) : upd (rsS S k) k 0 = rsS S (k + 1) := by
 funext i; unfold upd rsS
 exact pV
theorem dO.swapDS {w : World} {p m n i : Nat} {t : Int} {D S : Nat -> Int} (h : dO w p m t n D S) (hi : i < 8) :
 dO ((w.setCell ⟨p, 2 + i, none⟩ (.int .u64 18446744073709551615)).setCell ⟨p, 10 + i, none⟩ (.int .u32 0)) p m t n (upd D i 18446744073709551615) (upd S i 0) :=
 (h.setD i hi (by omega) (by omega)).setS i hi (by omega) (by omega)
theorem dO.swapSD {w : World} {p m n i : Nat} {t : Int} {D S : Nat -> Int} (h : dO w p m t n D S) (hi : i < 8) :
 dO ((w.setCell ⟨p, 10 + i, none⟩ (.int .u32 0)).setCell ⟨p, 2 + i, none⟩ (.int .u64 18446744073709551615)) p m t n (upd D i 18446744073709551615) (upd S i 0) :=
 (h.setS i hi (by omega) (by omega)).setD i hi (by omega) (by omega)
theorem dO.drew {w : World} {p m n : Nat} {t : Int} {D S : Nat -> Int} (h : dO w p m t n D S) : dO w.drew p m t n D S := h.kept rfl rfl
theorem aMF (t : Int) (n : Nat) (D S : Nat -> Int) (p m : Nat) (w : World) (h : dO w p m t n D S) :
 Calls prog 90 #[.pointer (some ⟨p, 0, none⟩)] w
  fun e w' => e = .returned (.tuple #[]) /\ dO w' p m t n (rsD D 8) (rsS S 8) /\ aF (· = p) w w' := by
 have H := Hd h
 clear h
 go_enter func90, ntmps90
 go_wp2_with fail
 go_loopw [5] (fun i wr => ∃ k : Nat, k <= 8 /\ i = .int .i64 k /\ dO wr p m t n (rsD D k) (rsS S k) /\ aF (· = p) w wr) (fun i _ => 8 - (intOf i).toNat)
 case atStart => exact ⟨0, by omega, rfl, by rw [aFW, aFl]; exact H.out, aF.refl _ _⟩
 case round =>
  obtain ⟨k, hk, rfl, hC, ho⟩ := hrel
  by_cases hlt : k < 8
  . have c1 := hC.cD k hlt
    have c2 := hC.cS k hlt
    have f1 := hC.free (2 + k)
    have f2 := hC.free (10 + k)
    have H1 := Hd (hC.drew.swapDS hlt)
    have H2 := Hd (hC.drew.swapSD hlt)
    have O1 := Hd ((ho.trans (uB wr)).trans ((aG wr.drew p (2 + k) (.int .u64 18446744073709551615)).trans (aG _ p (10 + k) (.int .u32 0))))
    have O2 := Hd ((ho.trans (uB wr)).trans ((aG wr.drew p (10 + k) (.int .u32 0)).trans (aG _ p (2 + k) (.int .u64 18446744073709551615))))
    have E1 := Hd (aF4 D k)
    have E2 := Hd (aGl S k)
    clear hC ho
    go_wp2_with fail
    go_region
    all_goals
     go_wp2_with fail
     go_roundw
     case rel => exact ⟨k + 1, by omega, by go_num, by rw [<- E1.out, <- E2.out]; first | exact H1.out | exact H2.out, by first | exact O1.out | exact O2.out⟩
     case measure => simp [intOf]; omega
  . obtain rfl : k = 8 := by omega
    go_wp2_with fail
    go_end0
    exact ⟨rfl, hC, ho⟩
def nvD : Nat -> Int := fun _ => 18446744073709551615
def iH : Nat -> Int := fun _ => 0
theorem dO.congr {w : World} {p m n : Nat} {t : Int} {D S D' S' : Nat -> Int} (h : dO w p m t n D S) (hd : ∀ i, i < 8 -> D i = D' i) (hs : ∀ i, i < 8 -> S i = S' i) (hD : xZ D') (hS : okS S') : dO w p m t n D' S' :=
 ⟨by rw [h.cell]; unfold mZ; rw [mG _ _ _ _ hd, mG _ _ _ _ hs], h.map, h.t0, h.t1, h.n0, h.n1, hD, hS⟩
theorem aCV : xZ nvD := fun _ => by unfold nvD; omega
theorem zF : okS iH := fun _ => by unfold iH; omega
theorem aC2 (t : Int) (n : Nat) (D S : Nat -> Int) (p m : Nat) (w : World) (h : dO w p m t n D S) :
 Calls prog 90 #[.pointer (some ⟨p, 0, none⟩)] w
  fun e w' => e = .returned (.tuple #[]) /\ dO w' p m t n nvD iH /\ aF (· = p) w w' :=
 (aMF t n D S p m w h).mono fun e w' g => ⟨g.1, g.2.1.congr (fun i hi => by unfold rsD nvD; rw [if_pos hi]) (fun i hi => by unfold rsS iH; rw [if_pos hi]) aCV zF, g.2.2⟩
theorem aH0 (n : Int) (w : World) (h : n < 1 \/ 8 < n) : Calls prog 46 #[.int .i64 n] w fun e w' => e = .returned (.tuple #[.pointer none, .int .i64 5]) /\ w = w' := by
 rcases h with h | h
 all_goals
  go_enter func46, ntmps46
  go_wp2_with fail
  go_ret2
  exact ⟨rfl, rfl⟩
def aOt (w : World) (n : Nat) (e : Ending) (w' : World) : Prop :=
 ∃ p, w.heap.size <= p /\ e = .returned (.tuple #[.pointer (some ⟨p, 0, none⟩), .int .i64 0]) /\ dO w' p w.heap.size 0 n nvD iH /\ Below w.heap.size w w'
theorem aMK (n : Nat) (w : World) (h1 : 1 <= n) (h8 : n <= 8) : Calls prog 46 #[.int .i64 n] w (aOt w n) := by
 go_enter func46, ntmps46
 go_wp2_with fail
 refine (aH5 n w h8).mono ?_
 rintro e w1 ⟨rfl, hM, hb⟩
 go_wp2_with fail
 have hC : dO (w1.alloc (.cells (mZ 0 n iH iH w.heap.size).toArray 164)) w1.heap.size w.heap.size 0 n iH iH :=
  ⟨aD _ _, hM.kept (aX _ _ hM.lt), by omega, by omega, h1, h8, fun _ => by unfold iH; omega, zF⟩
 have hb1 := aE hb (.cells (mZ 0 n iH iH w.heap.size).toArray 164)
 have hp : w.heap.size <= w1.heap.size := hb.size
 refine (aC2 0 n iH iH _ _ _ hC).mono ?_
 rintro e w2 ⟨rfl, hC2, ho2⟩
 go_wp2_with fail
 go_ret2
 exact ⟨_, hp, rfl, hC2, aF.toBelow hb1 ho2 (fun _ h => by omega) (Nat.le_refl _)⟩
theorem aR {P : Prop} (h : P := by
 go_wp2_with fail
 go_ret
 exact ⟨rfl, rfl⟩
 ) : P := h
theorem aBm (t : Int) (n : Nat) (D S : Nat -> Int) (p m : Nat) (w : World) (h : dO w p m t n D S) :
 Calls prog 120 #[.pointer (some ⟨p, 0, none⟩)] w fun e w' => e = .returned (.int .i64 n) /\ w = w' := by
 have c1 := h.c1
 clear h
 go_enter func120, ntmps120
 exact aR
theorem aJV (t : Int) (n : Nat) (D S : Nat -> Int) (p m : Nat) (w : World) (h : dO w p m t n D S) :
 Calls prog 45 #[.pointer (some ⟨p, 0, none⟩)] w fun e w' => e = .returned (.int .u64 t) /\ w = w' := by
 have c1 := h.c0
 clear h
 go_enter func45, ntmps45
 exact aR
def dV (n : Nat) (h : Int) : Bool := decide (0 <= h /\ h < (n : Int))
theorem sC (h t : Int) (n : Nat) (D S : Nat -> Int) (p m : Nat) (w : World) (hc : dO w p m t n D S) :
 Calls prog 192 #[.pointer (some ⟨p, 0, none⟩), .int .i64 h] w fun e w' => e = .returned (.bool (dV n h)) /\ w = w' := by
 by_cases h0 : 0 <= h
 . by_cases h1 : h < (n : Int)
   . rw [show dV n h = true from decide_eq_true ⟨h0, h1⟩]
     go_enter func192, ntmps192
     go_wp2_with (go_at_call 120; refine (aBm _ _ _ _ _ _ _ hc).mono ?_; rintro e w' ⟨rfl, rfl⟩)
     go_ret
     exact ⟨rfl, rfl⟩
   . rw [show dV n h = false from decide_eq_false (fun e => h1 e.2)]
     go_enter func192, ntmps192
     go_wp2_with (go_at_call 120; refine (aBm _ _ _ _ _ _ _ hc).mono ?_; rintro e w' ⟨rfl, rfl⟩)
     go_ret
     exact ⟨bX (decide_eq_false (by omega)), rfl⟩
 . rw [show dV n h = false from decide_eq_false (fun e => h0 e.1)]
   go_enter func192, ntmps192
   exact aR
def pM (n : Nat) (D : Nat -> Int) (h : Int) : Int := if dV n h = true then D h.toNat else 18446744073709551615
theorem xG {P : Prop} (h : P := by
 go_enter func138, ntmps138
 go_wp2_with (go_at_call 192; refine (sC _ _ _ _ _ _ _ _ hc).mono ?_; rw [HB.out]; rintro e w' ⟨rfl, rfl⟩)
 go_ret
 exact ⟨rfl, rfl⟩
 ) : P := h
theorem aFq (h t : Int) (n : Nat) (D S : Nat -> Int) (p m : Nat) (w : World) (hc : dO w p m t n D S) :
 Calls prog 138 #[.pointer (some ⟨p, 0, none⟩), .int .i64 h] w fun e w' => e = .returned (.int .u64 (pM n D h)) /\ w = w' := by
 have hn := hc.n1
 cases hb : dV n h
 . rw [show pM n D h = 18446744073709551615 by unfold pM; rw [hb]; rfl]
   have HB := Hd hb
   clear hb
   exact xG
 . have hh : 0 <= h /\ h < (n : Int) := by unfold dV at hb; simpa using hb
   obtain ⟨k, rfl⟩ := Int.eq_ofNat_of_zero_le hh.1
   rw [show pM n D (k : Int) = D k by unfold pM; rw [if_pos hb]; rfl]
   have hk : k < 8 := by omega
   have c := hc.cD k hk
   have HB := Hd hb
   clear hb hh
   exact xG
theorem aNM (v t : Int) (n : Nat) (D S : Nat -> Int) (p m : Nat) (w : World) (hc : dO w p m t n D S) (v0 : 0 <= v) (v1 : v < 18446744073709551616) :
 Calls prog 257 #[.pointer (some ⟨p, 0, none⟩), .int .u64 v] w fun e w' => e = .returned (.tuple #[]) /\ dO w' p m (eC t v) n D S /\ aF (· = p) w w' := by
 have c := hc.c0
 have f := hc.free 0
 have t0 := hc.t0
 have t1 := hc.t1
 have b := kE t0 t1 v0 v1
 go_enter func257, ntmps257
 go_wp2_with (go_at_call 261; refine (Add _ _ _ t0 t1 v0 v1).mono ?_; rintro e w' ⟨rfl, rfl⟩)
 go_end0
 exact ⟨rfl, hc.setT b.1 b.2, aG _ _ _ _⟩
def yJ (t : Int) (n : Nat) (D : Nat -> Int) (h : Int) : Bool := dV n h && decide (D h.toNat <= t)
def cSf (n : Nat) (S : Nat -> Int) (h : Int) : Bool := dV n h && (S h.toNat == 1)
theorem aLx (t : Int) (n k : Nat) (D S : Nat -> Int) (p m a b : Nat) (w : World) (hc : dO w p m t n D S) (hk : k < 8) (ha : w.cell? ⟨a, 0, none⟩ = some (.pointer (some ⟨p, 0, none⟩))) (hb : w.cell? ⟨b, 0, none⟩ = some (.int .i64 k)) :
 Calls prog 186 #[.pointer (some ⟨a, 0, none⟩), .pointer (some ⟨b, 0, none⟩)] w fun e w' => e = .returned (.bool (decide (D k <= t))) /\ ∃ j, w' = w.drewN j := by
 have c0 := hc.c0
 have c1 := hc.cD k hk
 have hl := hc.ltp
 clear hc
 go_enter func186, ntmps186
 go_wp2_with fail
 go_quiet (fail)
 go_wp2_with fail
 go_ret
 exact ⟨rfl, nq, rfl⟩
theorem aML (t : Int) (n k : Nat) (D S : Nat -> Int) (p m a b : Nat) (w : World) (hc : dO w p m t n D S) (hk : k < 8) (ha : w.cell? ⟨a, 0, none⟩ = some (.pointer (some ⟨p, 0, none⟩))) (hb : w.cell? ⟨b, 0, none⟩ = some (.int .i64 k)) :
 Calls prog 187 #[.pointer (some ⟨a, 0, none⟩), .pointer (some ⟨b, 0, none⟩)] w fun e w' => e = .returned (.bool (S k == 1)) /\ ∃ j, w' = w.drewN j := by
 have c1 := hc.cS k hk
 have hl := hc.ltp
 clear hc
 go_enter func187, ntmps187
 go_wp2_with fail
 go_quiet (fail)
 go_wp2_with fail
 go_ret
 exact ⟨rfl, nq, rfl⟩
theorem uZ {P : Prop} (h : P := by
 have HB := Hd hq
 clear hq
 go_enter func185, ntmps185
 go_wp2_with (go_at_call 192; refine (sC _ _ _ _ _ _ _ _ hc).mono ?_; rw [HB.out]; rintro e w' ⟨rfl, rfl⟩)
 go_ret
 exact ⟨rfl, aI w⟩
 ) : P := h
theorem aE6 (t h : Int) (n : Nat) (D S : Nat -> Int) (p m a b : Nat) (w : World) (hc : dO w p m t n D S) (ha : w.cell? ⟨a, 0, none⟩ = some (.pointer (some ⟨p, 0, none⟩))) (hb : w.cell? ⟨b, 0, none⟩ = some (.int .i64 h)) :
 Calls prog 185 #[.pointer (some ⟨p, 0, none⟩), .int .i64 h, .func (.func 186) #[] #[.pointer (some ⟨a, 0, none⟩), .pointer (some ⟨b, 0, none⟩)]] w
  fun e w' => e = .returned (.bool (yJ t n D h)) /\ Below w.heap.size w w' := by
 have hn := hc.n1
 cases hq : dV n h
 . rw [show yJ t n D h = false by unfold yJ; rw [hq]; rfl]
   exact uZ
 . have hh : 0 <= h /\ h < (n : Int) := by unfold dV at hq; simpa using hq
   obtain ⟨k, rfl⟩ := Int.eq_ofNat_of_zero_le hh.1
   have hk : k < 8 := by omega
   rw [show yJ t n D (k : Int) = decide (D k <= t) by unfold yJ; rw [hq]; rfl]
   have HB := Hd hq
   clear hq hh
   go_enter func185, ntmps185
   go_wp2_with (go_at_call 192; refine (sC _ _ _ _ _ _ _ _ hc).mono ?_; rw [HB.out]; rintro e w' ⟨rfl, rfl⟩)
   refine (aLx t n k D S p m a b _ hc hk ha hb).mono ?_
   rintro e w' ⟨rfl, j, rfl⟩
   go_wp2_with fail
   go_ret
   exact ⟨rfl, tQ (aI w) _⟩
theorem aJt (t h : Int) (n : Nat) (D S : Nat -> Int) (p m : Nat) (w : World) (hc : dO w p m t n D S) :
 Calls prog 121 #[.pointer (some ⟨p, 0, none⟩), .int .i64 h] w fun e w' => e = .returned (.bool (yJ t n D h)) /\ Below w.heap.size w w' := by
 have hmf : ∀ (fn : Fn) (first cap : Array Value) (w : World), (Instr.makeFunc fn first cap).run prog w = .ok (.func fn first cap) w := fun _ _ _ _ => rfl
 have hc2 := hc.below (aE (aE (aI w) (.cells #[.pointer (some ⟨p, 0, none⟩)] 69)) (.cells #[.int .i64 h] 3))
 have h0 := aA (bG w (.cells #[.pointer (some ⟨p, 0, none⟩)] 69) (.cells #[.int .i64 h] 3)) 0
 have h1 := aA (bL w (.cells #[.pointer (some ⟨p, 0, none⟩)] 69) (.cells #[.int .i64 h] 3)) 0
 simp only [y0q, List.getElem?_cons_zero] at h0 h1
 have H2 := Hd hc2
 clear hc2 hc
 go_enter func121, ntmps121
 go_wp2_with fail
 refine (aE6 t h n D S p m _ _ _ H2.out h0 h1).mono ?_
 rintro e w' ⟨rfl, hb⟩
 go_wp2_with fail
 go_ret
 exact ⟨rfl, tr (aE (aE (aI w) _) _) hb⟩
theorem aHJ (t h : Int) (n : Nat) (D S : Nat -> Int) (p m a b : Nat) (w : World) (hc : dO w p m t n D S) (ha : w.cell? ⟨a, 0, none⟩ = some (.pointer (some ⟨p, 0, none⟩))) (hb : w.cell? ⟨b, 0, none⟩ = some (.int .i64 h)) :
 Calls prog 185 #[.pointer (some ⟨p, 0, none⟩), .int .i64 h, .func (.func 187) #[] #[.pointer (some ⟨a, 0, none⟩), .pointer (some ⟨b, 0, none⟩)]] w
  fun e w' => e = .returned (.bool (cSf n S h)) /\ Below w.heap.size w w' := by
 have hn := hc.n1
 cases hq : dV n h
 . rw [show cSf n S h = false by unfold cSf; rw [hq]; rfl]
   exact uZ
 . have hh : 0 <= h /\ h < (n : Int) := by unfold dV at hq; simpa using hq
   obtain ⟨k, rfl⟩ := Int.eq_ofNat_of_zero_le hh.1
   have hk : k < 8 := by omega
   rw [show cSf n S (k : Int) = (S k == 1) by unfold cSf; rw [hq]; rfl]
   have HB := Hd hq
   clear hq hh
   go_enter func185, ntmps185
   go_wp2_with (go_at_call 192; refine (sC _ _ _ _ _ _ _ _ hc).mono ?_; rw [HB.out]; rintro e w' ⟨rfl, rfl⟩)
   refine (aML t n k D S p m a b _ hc hk ha hb).mono ?_
   rintro e w' ⟨rfl, j, rfl⟩
   go_wp2_with fail
   go_ret
   exact ⟨rfl, tQ (aI w) _⟩
theorem aNE (t h : Int) (n : Nat) (D S : Nat -> Int) (p m : Nat) (w : World) (hc : dO w p m t n D S) :
 Calls prog 122 #[.pointer (some ⟨p, 0, none⟩), .int .i64 h] w fun e w' => e = .returned (.bool (cSf n S h)) /\ Below w.heap.size w w' := by
 have hmf : ∀ (fn : Fn) (first cap : Array Value) (w : World), (Instr.makeFunc fn first cap).run prog w = .ok (.func fn first cap) w := fun _ _ _ _ => rfl
 have hc2 := hc.below (aE (aE (aI w) (.cells #[.pointer (some ⟨p, 0, none⟩)] 69)) (.cells #[.int .i64 h] 3))
 have h0 := aA (bG w (.cells #[.pointer (some ⟨p, 0, none⟩)] 69) (.cells #[.int .i64 h] 3)) 0
 have h1 := aA (bL w (.cells #[.pointer (some ⟨p, 0, none⟩)] 69) (.cells #[.int .i64 h] 3)) 0
 simp only [y0q, List.getElem?_cons_zero] at h0 h1
 have H2 := Hd hc2
 clear hc2 hc
 go_enter func122, ntmps122
 go_wp2_with fail
 refine (aHJ t h n D S p m _ _ _ H2.out h0 h1).mono ?_
 rintro e w' ⟨rfl, hb⟩
 go_wp2_with fail
 go_ret
 exact ⟨rfl, tr (aE (aE (aI w) _) _) hb⟩
def ob (f : Nat -> Bool) (k : Nat) : Int := ((fF f k : Nat) : Int)
def un (k : Nat) : Int := 2 ^ k % 4294967296
theorem gL (f : Nat -> Bool) (k : Nat) (h : k <= 32) : 0 <= ob f k /\ ob f k < 4294967296 := by
 have a := kW f k
 have b : 2 ^ k <= 2 ^ 32 := Nat.pow_le_pow_right (by decide) h
 unfold ob; omega
theorem kV (k : Nat) : 0 <= un k /\ un k < 4294967296 := by unfold un; omega
theorem aBj (k : Nat) (h : k < 32) : un k = ((2 ^ k : Nat) : Int) := by
 have b : 2 ^ k <= 2 ^ 31 := Nat.pow_le_pow_right (by decide) (by omega)
 unfold un; rw [<- jK]
 generalize 2 ^ k = x at b ⊢
 omega
theorem yI (k : Nat) : un (k + 1) = 2 * un k % 4294967296 := by
 unfold un; rw [Int.pow_succ]; omega
theorem aGV (f : Nat -> Bool) (k : Nat) (h : k < 32) : ob f k + un k < 4294967296 := by
 have a := kW f k
 have b : 2 ^ (k + 1) <= 2 ^ 32 := Nat.pow_le_pow_right (by decide) (by omega)
 rw [Nat.pow_succ] at b
 rw [aBj k h]; unfold ob; omega
theorem tY (f : Nat -> Bool) (k : Nat) (h : k < 32) (hf : f k = true) : ob f (k + 1) = ob f k + un k := by
 rw [aBj k h]; unfold ob; rw [fF, if_pos hf]; push_cast; rfl
theorem xI (f : Nat -> Bool) (k : Nat) (hf : f k = false) : ob f (k + 1) = ob f k := by
 unfold ob; rw [fF, if_neg (by rw [hf]; decide)]; simp
theorem bE (n : Int) (i : Nat) (h : 0 <= n) : aO n i = n.toNat.testBit i := by
 obtain ⟨m, rfl⟩ := Int.eq_ofNat_of_zero_le h
 rw [Int.toNat_natCast, Nat.testBit_eq_decide_div_mod_eq]
 unfold aO
 have : ((m : Int) / 2 ^ i % 2) = ((m / 2 ^ i % 2 : Nat) : Int) := by push_cast; rfl
 rw [this]
 exact decide_eq_decide.2 (by omega)
theorem jT (f : Nat -> Bool) (i : Nat) : aO ((fF f 32 : Nat) : Int) i = (decide (i < 32) && f i) := by
 rw [bE _ _ (by omega), Int.toNat_natCast, gQ]
theorem aA9 (n : Int) (i : Nat) (h0 : 0 <= n) (h1 : n < 4294967296) (hi : 32 <= i) : aO n i = false := by
 rw [bE n i h0]
 apply Nat.testBit_lt_two_pow
 have : 2 ^ 32 <= 2 ^ i := Nat.pow_le_pow_right (by decide) hi
 omega
theorem iG {a b : Int} (a0 : 0 <= a) (a1 : a < 4294967296) (b0 : 0 <= b) (b1 : b < 4294967296) (h : ∀ i, i < 32 -> aO a i = aO b i) : a = b := by
 have : a.toNat = b.toNat := by
  apply Nat.eq_of_testBit_eq
  intro i
  rw [<- bE a i a0, <- bE b i b0]
  by_cases hi : i < 32
  . exact h i hi
  . rw [aA9 a i a0 a1 (by omega), aA9 b i b0 b1 (by omega)]
 omega
theorem aBf (a b : Int) (a0 : 0 <= a) (a1 : a < 4294967296) (b0 : 0 <= b) (b1 : b < 4294967296) : 0 <= bits BinOp.and IntKind.u32 a b /\ bits BinOp.and IntKind.u32 a b < 4294967296 := by
 rw [u32_and _ _ a0 a1 b0 b1]
 have : a.toNat &&& b.toNat <= a.toNat := Nat.and_le_left
 omega
theorem iN (a b : Int) (a0 : 0 <= a) (a1 : a < 4294967296) (b0 : 0 <= b) (b1 : b < 4294967296) : 0 <= bits BinOp.andNot IntKind.u32 a b /\ bits BinOp.andNot IntKind.u32 a b < 4294967296 := by
 rw [u32_andNot _ _ a0 a1 b0 b1]
 have : a.toNat &&& (4294967295 - b.toNat) <= a.toNat := Nat.and_le_left
 omega
theorem aCD (a b : Int) (a0 : 0 <= a) (a1 : a < 4294967296) (b0 : 0 <= b) (b1 : b < 4294967296) : bits BinOp.or IntKind.u32 a b = ((a.toNat ||| b.toNat : Nat) : Int) := by
 obtain ⟨m, rfl⟩ := Int.eq_ofNat_of_zero_le a0
 obtain ⟨n, rfl⟩ := Int.eq_ofNat_of_zero_le b0
 rw [u32_or_nat _ _ (by omega) (by omega)]; simp
theorem aD3 (a b : Int) (a0 : 0 <= a) (a1 : a < 4294967296) (b0 : 0 <= b) (b1 : b < 4294967296) : 0 <= bits BinOp.or IntKind.u32 a b /\ bits BinOp.or IntKind.u32 a b < 4294967296 := by
 rw [aCD _ _ a0 a1 b0 b1]
 have : a.toNat ||| b.toNat < 2 ^ 32 := Nat.or_lt_two_pow (by omega) (by omega)
 omega
theorem aH6 (a b : Int) (i : Nat) (a0 : 0 <= a) (a1 : a < 4294967296) (b0 : 0 <= b) (b1 : b < 4294967296) : aO (bits BinOp.and IntKind.u32 a b) i = (aO a i && aO b i) := by
 rw [u32_and _ _ a0 a1 b0 b1, bE _ _ (by omega), Int.toNat_natCast, Nat.testBit_and, bE _ _ a0, bE _ _ b0]
theorem aLS (a b : Int) (i : Nat) (a0 : 0 <= a) (a1 : a < 4294967296) (b0 : 0 <= b) (b1 : b < 4294967296) : aO (bits BinOp.or IntKind.u32 a b) i = (aO a i || aO b i) := by
 rw [aCD _ _ a0 a1 b0 b1, bE _ _ (by omega), Int.toNat_natCast, Nat.testBit_or, bE _ _ a0, bE _ _ b0]
theorem jS (a b : Int) (i : Nat) (hi : i < 32) (a0 : 0 <= a) (a1 : a < 4294967296) (b0 : 0 <= b) (b1 : b < 4294967296) : aO (bits BinOp.andNot IntKind.u32 a b) i = (aO a i && !aO b i) := by
 rw [u32_andNot _ _ a0 a1 b0 b1, bE _ _ (by omega), Int.toNat_natCast, Nat.testBit_and, bE _ _ a0, bE _ _ b0,
  show 4294967295 - b.toNat = 2 ^ 32 - (b.toNat + 1) from by omega, Nat.testBit_two_pow_sub_succ (by omega)]
 simp [hi]
theorem kP (i : Nat) : aO 0 i = false := by unfold aO; simp
end Go.Proofs.YtpojmmgokgamgaaGreat.B
