/- A part of the proof of a law of layer 12: ac. -/
import Derived.Test.YtealhichdbimlaaGreatZNab
import Derived.Deep.Cut
set_option linter.unusedVariables false
set_option linter.unusedSimpArgs false
set_option maxHeartbeats 12800000
set_option maxRecDepth 100000
namespace Go.Proofs.YtealhichdbimlaaGreat.B
open Go.Proofs.Tryz
open List renaming getElem?_toArray -> y0q
open Go.ChangeShapes Go.WideShapes Go.RowKit Go.Sort Go.MapKept
def iH (t : Int) (n : Nat) (D S : Nat -> Int) (m : Nat) : List Value := [.int .u64 t, .int .i64 n] ++ (il .u64 D 8 ++ (il .u32 S 8 ++ [.map (some m)]))
theorem aA2 (t : Int) (n : Nat) (D S : Nat -> Int) (m i : Nat) (h : i < 8) : (iH t n D S m)[2 + i]? = some (.int .u64 (D i)) := by
 unfold iH; rw [eM _ _ 2 i (by rfl), lF _ _ _ (by rw [cZ]; exact h), kF _ _ _ _ h]
theorem aA4 (t : Int) (n : Nat) (D S : Nat -> Int) (m i : Nat) (h : i < 8) : (iH t n D S m)[10 + i]? = some (.int .u32 (S i)) := by
 unfold iH; rw [show 10 + i = 2 + (8 + i) by omega, eM _ _ 2 _ (by rfl), eM _ _ 8 i (by rw [cZ]), lF _ _ _ (by rw [cZ]; exact h), kF _ _ _ _ h]
theorem aA3 (t : Int) (n : Nat) (D S : Nat -> Int) (m : Nat) : (iH t n D S m)[18]? = some (.map (some m)) := by
 unfold iH; rw [show 18 = 2 + (8 + (8 + 0)) by omega, eM _ _ 2 _ (by rfl), eM _ _ 8 _ (by rw [cZ]), eM _ _ 8 _ (by rw [cZ])]; rfl
theorem qX (t : Int) (n : Nat) (D S : Nat -> Int) (m : Nat) (v : Int) : (iH t n D S m).set 0 (.int .u64 v) = iH v n D S m := rfl
theorem qV (t : Int) (n : Nat) (D S : Nat -> Int) (m i : Nat) (v : Int) (h : i < 8) : (iH t n D S m).set (2 + i) (.int .u64 v) = iH t n (upd D i v) S m := by
 unfold iH; rw [kA _ _ 2 i _ (by rfl), fG _ _ _ _ (by rw [cZ]; exact h), rS]
theorem qW (t : Int) (n : Nat) (D S : Nat -> Int) (m i : Nat) (v : Int) (h : i < 8) : (iH t n D S m).set (10 + i) (.int .u32 v) = iH t n D (upd S i v) m := by
 unfold iH; rw [show 10 + i = 2 + (8 + i) by omega, kA _ _ 2 _ _ (by rfl), kA _ _ 8 i _ (by rw [cZ]), fG _ _ _ _ (by rw [cZ]; exact h), rS]
structure bL (w : World) (p m : Nat) (t : Int) (n : Nat) (D S : Nat -> Int) : Prop where
 cell : w.heap[p]? = some (.cells (iH t n D S m).toArray 168 (0, 0))
 map : bD w ek eS m (gH n)
 t0 : 0 <= t
 t1 : t < 18446744073709551616
 n0 : 1 <= n
 n1 : n <= 8
 d : uR D
 s : uS S
section
variable {w w' : World} {p m n : Nat} {t : Int} {D S : Nat -> Int}
theorem bL.ltp (h : bL w p m t n D S) : p < w.heap.size := lt_of_block h.cell
theorem bL.ltm (h : bL w p m t n D S) : m < w.heap.size := h.map.lt
theorem bL.ne (h : bL w p m t n D S) : p ≠ m := fun e => by obtain ⟨_, _, hb, _⟩ := h.map; rw [<- e, h.cell] at hb; cases hb
theorem bL.kept (h : bL w p m t n D S) (h1 : w'.heap[p]? = w.heap[p]?) (h2 : w'.heap[m]? = w.heap[m]?) : bL w' p m t n D S :=
 ⟨h1.trans h.cell, h.map.kept h2, h.t0, h.t1, h.n0, h.n1, h.d, h.s⟩
theorem bL.off {X : Nat -> Prop} (h : bL w p m t n D S) (ho : aE X w w') (h1 : ¬ X p) (h2 : ¬ X m) : bL w' p m t n D S :=
 h.kept (ho.block p h.ltp h1) (ho.block m h.ltm h2)
theorem bL.below (h : bL w p m t n D S) (ho : Below w.heap.size w w') : bL w' p m t n D S := h.kept (ho.block p h.ltp) (ho.block m h.ltm)
theorem bL.c0 (h : bL w p m t n D S) : w.cell? ⟨p, 0, none⟩ = some (.int .u64 t) := by have := aA h.cell 0; simpa [iH] using this
theorem bL.c1 (h : bL w p m t n D S) : w.cell? ⟨p, 1, none⟩ = some (.int .i64 n) := by have := aA h.cell 1; simpa [iH] using this
theorem bL.cD (h : bL w p m t n D S) (i : Nat) (hi : i < 8) : w.cell? ⟨p, 2 + i, none⟩ = some (.int .u64 (D i)) := by
 have := aA h.cell (2 + i); rw [this, y0q]; exact aA2 _ _ _ _ _ _ hi
theorem bL.cS (h : bL w p m t n D S) (i : Nat) (hi : i < 8) : w.cell? ⟨p, 10 + i, none⟩ = some (.int .u32 (S i)) := by
 have := aA h.cell (10 + i); rw [this, y0q]; exact aA4 _ _ _ _ _ _ hi
theorem bL.cM (h : bL w p m t n D S) : w.cell? ⟨p, 18, none⟩ = some (.map (some m)) := by
 have := aA h.cell 18; rw [this, y0q]; exact aA3 _ _ _ _ _
theorem bL.free (h : bL w p m t n D S) (j : Nat) : w.frozen? ⟨p, j, none⟩ = false := aG h.cell j
theorem bL.set (h : bL w p m t n D S) (j : Nat) (v : Value) {t' : Int} {D' S' : Nat -> Int} (he : (iH t n D S m).set j v = iH t' n D' S' m) (ht : 0 <= t' /\ t' < 18446744073709551616) (hd : uR D') (hs : uS S') :
 bL (w.setCell ⟨p, j, none⟩ v) p m t' n D' S' :=
 ⟨by rw [aK h.cell, <- he]; simp, h.map.kept (Below.heap_setCell w ⟨p, j, none⟩ v m (fun e => h.ne e.symm)), ht.1, ht.2, h.n0, h.n1, hd, hs⟩
theorem bL.setT (h : bL w p m t n D S) {v : Int} (v0 : 0 <= v) (v1 : v < 18446744073709551616) : bL (w.setCell ⟨p, 0, none⟩ (.int .u64 v)) p m v n D S :=
 h.set 0 _ (qX _ _ _ _ _ _) ⟨v0, v1⟩ h.d h.s
theorem bL.setD (h : bL w p m t n D S) (i : Nat) {v : Int} (hi : i < 8) (v0 : 0 <= v) (v1 : v < 18446744073709551616) : bL (w.setCell ⟨p, 2 + i, none⟩ (.int .u64 v)) p m t n (upd D i v) S :=
 h.set _ _ (qV _ _ _ _ _ _ _ hi) ⟨h.t0, h.t1⟩ (h.d.upd i v0 v1) h.s
theorem bL.setS (h : bL w p m t n D S) (i : Nat) {v : Int} (hi : i < 8) (v0 : 0 <= v) (v1 : v < 4294967296) : bL (w.setCell ⟨p, 10 + i, none⟩ (.int .u32 v)) p m t n D (upd S i v) :=
 h.set _ _ (qW _ _ _ _ _ _ _ hi) ⟨h.t0, h.t1⟩ h.d (h.s.upd i v0 v1)
end
theorem cC {B : Nat} {w w' : World} (h : Below B w w') (b : Nat) (o : Obj) (hb : B <= b) : Below B w (Go.ChangeMaps.setBlock w' b o) :=
 ⟨h.os, h.tape, h.output, by simpa [Go.ChangeMaps.setBlock] using h.size, fun k hk => by
  have : b ≠ k := by omega
  simp only [Go.ChangeMaps.setBlock, Array.getElem?_setIfInBounds, if_neg this]; exact h.block k hk⟩
theorem aCN (w : World) : ∃ es c w', (Instr.mapUpdate 166 (.map (some w.heap.size)) (ek 49144) (bK 3 0)).run prog (w.alloc (.map #[] 0)).drew = .ok () w' /\
 (Instr.mapUpdate 166 (.map (some w.heap.size)) (ek 49148) (bK 4 0)).run prog w' = .ok () es /\ bD es ek eS w.heap.size (gH 0) /\ Below w.heap.size w es /\ c = () := by
 have M0 : bD (w.alloc (.map #[] 0)).drew ek eS w.heap.size [] := (gE w ek eS).kept rfl
 obtain ⟨e1, c1, h1, m1⟩ := M0.update bS underlying166 49144 (bK 3 0) ⟨by omega, by omega⟩
 obtain ⟨e2, c2, h2, m2⟩ := m1.update bS underlying166 49148 (bK 4 0) ⟨by omega, by omega⟩
 refine ⟨_, (), _, h1, h2, m2.perm ?_, ?_, rfl⟩
 . simp [eE, gH]
 . exact cC (cC (qB (aO (aV w) _)) _ _ (Nat.le_refl _)) _ _ (Nat.le_refl _)
theorem aBK (w : World) : ∃ es c w', (Instr.mapUpdate 166 (.map (some w.heap.size)) (ek 49148) (bK 4 0)).run prog (w.alloc (.map #[] 0)).drew = .ok () w' /\
 (Instr.mapUpdate 166 (.map (some w.heap.size)) (ek 49144) (bK 3 0)).run prog w' = .ok () es /\ bD es ek eS w.heap.size (gH 0) /\ Below w.heap.size w es /\ c = () := by
 have M0 : bD (w.alloc (.map #[] 0)).drew ek eS w.heap.size [] := (gE w ek eS).kept rfl
 obtain ⟨e1, c1, h1, m1⟩ := M0.update bS underlying166 49148 (bK 4 0) ⟨by omega, by omega⟩
 obtain ⟨e2, c2, h2, m2⟩ := m1.update bS underlying166 49144 (bK 3 0) ⟨by omega, by omega⟩
 refine ⟨_, (), _, h1, h2, m2.perm ?_, ?_, rfl⟩
 . simp only [eE, gH]; exact List.Perm.swap _ _ _
 . exact cC (cC (qB (aO (aV w) _)) _ _ (Nat.le_refl _)) _ _ (Nat.le_refl _)
theorem sB (k : Nat) (h : k <= 7) : eE (4 * (k : Int)) (bK 0 k) (gH k) = (4 * (k : Int), bK 0 k) :: gH k :=
 hH fun p hp => by rcases kL k p hp with g | g | ⟨j, hj, g | g | g⟩ <;> omega
theorem iY {P : Prop} (h : P := by
 rcases List.mem_cons.1 hp with rfl | hp
 . show (4 * (k : Int)) ≠ _; omega
 . rcases kL k p hp with g | g | ⟨j, hj, g | g | g⟩ <;> omega
 ) : P := h
theorem sC (k : Nat) (h : k <= 7) : eE (16384 + 8 * (k : Int)) (bK 1 k) ((4 * (k : Int), bK 0 k) :: gH k) = (16384 + 8 * (k : Int), bK 1 k) :: (4 * (k : Int), bK 0 k) :: gH k :=
 hH fun p hp => by
  exact iY
theorem sD (k : Nat) (h : k <= 7) : eE (16384 + 8 * (k : Int) + 4) (bK 2 k) ((16384 + 8 * (k : Int), bK 1 k) :: (4 * (k : Int), bK 0 k) :: gH k) = gH (k + 1) :=
 hH fun p hp => by
  rcases List.mem_cons.1 hp with rfl | hp
  . show (16384 + 8 * (k : Int)) ≠ _; omega
  . exact iY
def qC (w w' : World) (n : Nat) : Prop := bD w' ek eS w.heap.size (gH n) /\ Below w.heap.size w w'
theorem uY (n : Nat) (w : World) (hn : n <= 8) :
 Calls prog 173 #[.int .i64 n] w fun e w' => e = .returned (.map (some w.heap.size)) /\ qC w w' n := by
 have hmm := @run_makeMap prog
 obtain ⟨X, _, V, hx1, hx2, hX, hbX, _⟩ := aCN w
 obtain ⟨Y, _, Z, hy1, hy2, hY, hbY, _⟩ := aBK w
 have HX := Hd hX
 have HY := Hd hY
 have HXb := Hd hbX
 have HYb := Hd hbY
 clear hX hY hbX hbY
 unfold ek bK at hx1 hx2 hy1 hy2
 go_enter func173, ntmps173
 go_upto_region 1 with (fail)
 refine gG fun K1 hK1 => ?_
 go_cut [3] from 12 (fun v w' => v = .map (some w.heap.size) /\ qC w w' 0)
 case first =>
  go_region
  all_goals
   go_wp2_with fail
   go_meet
   case rel => exact ⟨rfl, by first | exact ⟨HX.out, HXb.out⟩ | exact ⟨HY.out, HYb.out⟩⟩
 case rest =>
  obtain ⟨rfl, hcut⟩ := hcut
  refine hK1 _ _ ?_
  clear hK1 hx1 hx2 hy1 hy2 HX HY HXb HYb
  go_wp2_with fail
  go_loopw [14] (fun i wr => ∃ k : Nat, k <= n /\ i = .int .i64 k /\ qC w wr k) (fun i _ => n - (intOf i).toNat)
  case atStart => exact ⟨0, by omega, rfl, hcut⟩
  case round =>
   clear hcut
   obtain ⟨k, hk, rfl, hM, hb⟩ := hrel
   by_cases hlt : k < n
   . have e1 : (8 * (k : Int)) % 4294967296 = 8 * k := by omega
     have g1 := sB k (by omega)
     have g2 := sC k (by omega)
     have g3 := sD k (by omega)
     have G1 := Hd g1
     have G2 := Hd g2
     have G3 := Hd g3
     clear g1 g2 g3
     go_wp2_with (first
      | (at_mapUpdate; refine fE bS rfl _ _ _ _ rfl underlying166 rfl hM (4 * (k : Int)) (bK 0 k) rfl rfl ⟨by omega, by omega⟩ ?_; intro w3 hM3 ho3; rw [G1.out] at hM3)
      | (at_mapUpdate; refine fE bS rfl _ _ _ _ rfl underlying166 rfl hM3 (16384 + 8 * (k : Int)) (bK 1 k) rfl rfl ⟨by omega, by omega⟩ ?_; intro w4 hM4 ho4; rw [G2.out] at hM4)
      | (at_mapUpdate; refine fE bS rfl _ _ _ _ rfl underlying166 rfl hM4 (16384 + 8 * (k : Int) + 4) (bK 2 k) rfl rfl ⟨by omega, by omega⟩ ?_; intro w5 hM5 ho5; rw [G3.out] at hM5))
     go_roundw
     case rel => exact ⟨k + 1, by omega, by go_num, hM5, aE.toBelow (aE.toBelow (aE.toBelow hb ho3 (fun _ h => by omega) (Nat.le_refl _)) ho4 (fun _ h => by omega) (Nat.le_refl _)) ho5 (fun _ h => by omega) (Nat.le_refl _)⟩
     case measure => simp [intOf]; omega
   . obtain rfl : k = n := by omega
     go_wp2_with fail
     go_ret
     exact ⟨rfl, hM, hb⟩
def xE (D : Nat -> Int) (k : Nat) : Nat -> Int := fun i => if i < k then 18446744073709551615 else D i
def xF (S : Nat -> Int) (k : Nat) : Nat -> Int := fun i => if i < k then 0 else S i
theorem tV (D : Nat -> Int) : xE D 0 = D := by funext i; simp [xE]
theorem tX (S : Nat -> Int) : xF S 0 = S := by funext i; simp [xF]
theorem jE {P : Prop} (h : P := by
 by_cases e : i = k
 . subst e; simp
 . rw [if_neg e]; simp only [show (i < k + 1) = (i < k) from propext (by omega)]
 ) : P := h
theorem tT (D : Nat -> Int) (k : Nat) : upd (xE D k) k 18446744073709551615 = xE D (k + 1) := by
 funext i; unfold upd xE
 exact jE
theorem tW (S : Nat -> Int) (k : Nat) : upd (xF S k) k 0 = xF S (k + 1) := by
 funext i; unfold upd xF
 exact jE
theorem bL.swapDS {w : World} {p m n i : Nat} {t : Int} {D S : Nat -> Int} (h : bL w p m t n D S) (hi : i < 8) :
 bL ((w.setCell ⟨p, 2 + i, none⟩ (.int .u64 18446744073709551615)).setCell ⟨p, 10 + i, none⟩ (.int .u32 0)) p m t n (upd D i 18446744073709551615) (upd S i 0) :=
 (h.setD i hi (by omega) (by omega)).setS i hi (by omega) (by omega)
theorem bL.swapSD {w : World} {p m n i : Nat} {t : Int} {D S : Nat -> Int} (h : bL w p m t n D S) (hi : i < 8) :
 bL ((w.setCell ⟨p, 10 + i, none⟩ (.int .u32 0)).setCell ⟨p, 2 + i, none⟩ (.int .u64 18446744073709551615)) p m t n (upd D i 18446744073709551615) (upd S i 0) :=
 (h.setS i hi (by omega) (by omega)).setD i hi (by omega) (by omega)
theorem bL.drew {w : World} {p m n : Nat} {t : Int} {D S : Nat -> Int} (h : bL w p m t n D S) : bL w.drew p m t n D S := h.kept rfl rfl
theorem yA (t : Int) (n : Nat) (D S : Nat -> Int) (p m : Nat) (w : World) (h : bL w p m t n D S) :
 Calls prog 174 #[.pointer (some ⟨p, 0, none⟩)] w
  fun e w' => e = .returned (.tuple #[]) /\ bL w' p m t n (xE D 8) (xF S 8) /\ aE (· = p) w w' := by
 have H := Hd h
 clear h
 go_enter func174, ntmps174
 go_wp2_with fail
 go_loopw [5] (fun i wr => ∃ k : Nat, k <= 8 /\ i = .int .i64 k /\ bL wr p m t n (xE D k) (xF S k) /\ aE (· = p) w wr) (fun i _ => 8 - (intOf i).toNat)
 case atStart => exact ⟨0, by omega, rfl, by rw [tV, tX]; exact H.out, aE.refl _ _⟩
 case round =>
  obtain ⟨k, hk, rfl, hC, ho⟩ := hrel
  by_cases hlt : k < 8
  . have c1 := hC.cD k hlt
    have c2 := hC.cS k hlt
    have f1 := hC.free (2 + k)
    have f2 := hC.free (10 + k)
    have H1 := Hd (hC.drew.swapDS hlt)
    have H2 := Hd (hC.drew.swapSD hlt)
    have O1 := Hd ((ho.trans (lV wr)).trans ((bE wr.drew p (2 + k) (.int .u64 18446744073709551615)).trans (bE _ p (10 + k) (.int .u32 0))))
    have O2 := Hd ((ho.trans (lV wr)).trans ((bE wr.drew p (10 + k) (.int .u32 0)).trans (bE _ p (2 + k) (.int .u64 18446744073709551615))))
    have E1 := Hd (tT D k)
    have E2 := Hd (tW S k)
    clear hC ho
    go_wp2_with fail
    go_region
    all_goals
     go_wp2_with fail
     go_roundw
     case rel => exact ⟨k + 1, by omega, by go_num, by rw [<- E1.out, <- E2.out]; first | exact H1.out | exact H2.out, by first | exact O1.out | exact O2.out⟩
     case measure => simp [intOf]; omega
  . obtain rfl : k = 8 := by omega
    go_wp2_with fail
    go_end0
    exact ⟨rfl, hC, ho⟩
def zT : Nat -> Int := fun _ => 18446744073709551615
def mG : Nat -> Int := fun _ => 0
theorem bL.congr {w : World} {p m n : Nat} {t : Int} {D S D' S' : Nat -> Int} (h : bL w p m t n D S) (hd : ∀ i, i < 8 -> D i = D' i) (hs : ∀ i, i < 8 -> S i = S' i) (hD : uR D') (hS : uS S') : bL w p m t n D' S' :=
 ⟨by rw [h.cell]; unfold iH; rw [lQ _ _ _ _ hd, lQ _ _ _ _ hs], h.map, h.t0, h.t1, h.n0, h.n1, hD, hS⟩
theorem nE : uR zT := fun _ => by unfold zT; omega
theorem kN : uS mG := fun _ => by unfold mG; omega
theorem nS (t : Int) (n : Nat) (D S : Nat -> Int) (p m : Nat) (w : World) (h : bL w p m t n D S) :
 Calls prog 174 #[.pointer (some ⟨p, 0, none⟩)] w
  fun e w' => e = .returned (.tuple #[]) /\ bL w' p m t n zT mG /\ aE (· = p) w w' :=
 (yA t n D S p m w h).mono fun e w' g => ⟨g.1, g.2.1.congr (fun i hi => by unfold xE zT; rw [if_pos hi]) (fun i hi => by unfold xF mG; rw [if_pos hi]) nE kN, g.2.2⟩
def aB3 (w : World) (n : Nat) (e : Ending) (w' : World) : Prop :=
 ∃ p, w.heap.size <= p /\ e = .returned (.tuple #[.pointer (some ⟨p, 0, none⟩), .int .i64 0]) /\ bL w' p w.heap.size 0 n zT mG /\ Below w.heap.size w w'
theorem aB8 (n : Nat) (w : World) (h1 : 1 <= n) (h8 : n <= 8) : Calls prog 103 #[.int .i64 n] w (aB3 w n) := by
 go_enter func103, ntmps103
 go_wp2_with fail
 refine (uY n w h8).mono ?_
 rintro e w1 ⟨rfl, hM, hb⟩
 go_wp2_with fail
 have hC : bL (w1.alloc (.cells (iH 0 n mG mG w.heap.size).toArray 168)) w1.heap.size w.heap.size 0 n mG mG :=
  ⟨aD _ _, hM.kept (aH _ _ hM.lt), by omega, by omega, h1, h8, fun _ => by unfold mG; omega, kN⟩
 have hb1 := aO hb (.cells (iH 0 n mG mG w.heap.size).toArray 168)
 have hp : w.heap.size <= w1.heap.size := hb.size
 refine (nS 0 n mG mG _ _ _ hC).mono ?_
 rintro e w2 ⟨rfl, hC2, ho2⟩
 go_wp2_with fail
 go_ret2
 exact ⟨_, hp, rfl, hC2, aE.toBelow hb1 ho2 (fun _ h => by omega) (Nat.le_refl _)⟩
theorem aL {P : Prop} (h : P := by
 go_wp2_with fail
 go_ret
 exact ⟨rfl, rfl⟩
 ) : P := h
theorem mO (t : Int) (n : Nat) (D S : Nat -> Int) (p m : Nat) (w : World) (h : bL w p m t n D S) :
 Calls prog 98 #[.pointer (some ⟨p, 0, none⟩)] w fun e w' => e = .returned (.int .i64 n) /\ w = w' := by
 have c1 := h.c1
 clear h
 go_enter func98, ntmps98
 exact aL
theorem aA1 (t : Int) (n : Nat) (D S : Nat -> Int) (p m : Nat) (w : World) (h : bL w p m t n D S) :
 Calls prog 45 #[.pointer (some ⟨p, 0, none⟩)] w fun e w' => e = .returned (.int .u64 t) /\ w = w' := by
 have c1 := h.c0
 clear h
 go_enter func45, ntmps45
 exact aL
def cQ (n : Nat) (h : Int) : Bool := decide (0 <= h /\ h < (n : Int))
theorem kB (h t : Int) (n : Nat) (D S : Nat -> Int) (p m : Nat) (w : World) (hc : bL w p m t n D S) :
 Calls prog 198 #[.pointer (some ⟨p, 0, none⟩), .int .i64 h] w fun e w' => e = .returned (.bool (cQ n h)) /\ w = w' := by
 by_cases h0 : 0 <= h
 . by_cases h1 : h < (n : Int)
   . rw [show cQ n h = true from decide_eq_true ⟨h0, h1⟩]
     go_enter func198, ntmps198
     go_wp2_with (go_at_call 98; refine (mO _ _ _ _ _ _ _ hc).mono ?_; rintro e w' ⟨rfl, rfl⟩)
     go_ret
     exact ⟨rfl, rfl⟩
   . rw [show cQ n h = false from decide_eq_false (fun e => h1 e.2)]
     go_enter func198, ntmps198
     go_wp2_with (go_at_call 98; refine (mO _ _ _ _ _ _ _ hc).mono ?_; rintro e w' ⟨rfl, rfl⟩)
     go_ret
     exact ⟨bI (decide_eq_false (by omega)), rfl⟩
 . rw [show cQ n h = false from decide_eq_false (fun e => h0 e.1)]
   go_enter func198, ntmps198
   exact aL
theorem aA0 (v t : Int) (n : Nat) (D S : Nat -> Int) (p m : Nat) (w : World) (hc : bL w p m t n D S) (v0 : 0 <= v) (v1 : v < 18446744073709551616) :
 Calls prog 271 #[.pointer (some ⟨p, 0, none⟩), .int .u64 v] w fun e w' => e = .returned (.tuple #[]) /\ bL w' p m (dS t v) n D S /\ aE (· = p) w w' := by
 have c := hc.c0
 have f := hc.free 0
 have t0 := hc.t0
 have t1 := hc.t1
 have b := dI t0 t1 v0 v1
 go_enter func271, ntmps271
 go_wp2_with (go_at_call 34; refine (Add _ _ _ t0 t1 v0 v1).mono ?_; rintro e w' ⟨rfl, rfl⟩)
 go_end0
 exact ⟨rfl, hc.setT b.1 b.2, bE _ _ _ _⟩
def qQ (t : Int) (n : Nat) (D : Nat -> Int) (h : Int) : Bool := cQ n h && decide (D h.toNat <= t)
def uP (n : Nat) (S : Nat -> Int) (h : Int) : Bool := cQ n h && (S h.toNat == 1)
theorem xZ (t : Int) (n k : Nat) (D S : Nat -> Int) (p m a b : Nat) (w : World) (hc : bL w p m t n D S) (hk : k < 8) (ha : w.cell? ⟨a, 0, none⟩ = some (.pointer (some ⟨p, 0, none⟩))) (hb : w.cell? ⟨b, 0, none⟩ = some (.int .i64 k)) :
 Calls prog 169 #[.pointer (some ⟨a, 0, none⟩), .pointer (some ⟨b, 0, none⟩)] w fun e w' => e = .returned (.bool (decide (D k <= t))) /\ ∃ j, w' = w.drewN j := by
 have c0 := hc.c0
 have c1 := hc.cD k hk
 have hl := hc.ltp
 clear hc
 go_enter func169, ntmps169
 go_wp2_with fail
 go_quiet (fail)
 go_wp2_with fail
 go_ret
 exact ⟨rfl, nq, rfl⟩
theorem yB (t : Int) (n k : Nat) (D S : Nat -> Int) (p m a b : Nat) (w : World) (hc : bL w p m t n D S) (hk : k < 8) (ha : w.cell? ⟨a, 0, none⟩ = some (.pointer (some ⟨p, 0, none⟩))) (hb : w.cell? ⟨b, 0, none⟩ = some (.int .i64 k)) :
 Calls prog 170 #[.pointer (some ⟨a, 0, none⟩), .pointer (some ⟨b, 0, none⟩)] w fun e w' => e = .returned (.bool (S k == 1)) /\ ∃ j, w' = w.drewN j := by
 have c1 := hc.cS k hk
 have hl := hc.ltp
 clear hc
 go_enter func170, ntmps170
 go_wp2_with fail
 go_quiet (fail)
 go_wp2_with fail
 go_ret
 exact ⟨rfl, nq, rfl⟩
theorem jD {P : Prop} (h : P := by
 have HB := Hd hq
 clear hq
 go_enter func168, ntmps168
 go_wp2_with (go_at_call 198; refine (kB _ _ _ _ _ _ _ _ hc).mono ?_; rw [HB.out]; rintro e w' ⟨rfl, rfl⟩)
 go_ret
 exact ⟨rfl, aV w⟩
 ) : P := h
theorem qM (t h : Int) (n : Nat) (D S : Nat -> Int) (p m a b : Nat) (w : World) (hc : bL w p m t n D S) (ha : w.cell? ⟨a, 0, none⟩ = some (.pointer (some ⟨p, 0, none⟩))) (hb : w.cell? ⟨b, 0, none⟩ = some (.int .i64 h)) :
 Calls prog 168 #[.pointer (some ⟨p, 0, none⟩), .int .i64 h, .func (.func 169) #[] #[.pointer (some ⟨a, 0, none⟩), .pointer (some ⟨b, 0, none⟩)]] w
  fun e w' => e = .returned (.bool (qQ t n D h)) /\ Below w.heap.size w w' := by
 have hn := hc.n1
 cases hq : cQ n h
 . rw [show qQ t n D h = false by unfold qQ; rw [hq]; rfl]
   exact jD
 . have hh : 0 <= h /\ h < (n : Int) := by unfold cQ at hq; simpa using hq
   obtain ⟨k, rfl⟩ := Int.eq_ofNat_of_zero_le hh.1
   have hk : k < 8 := by omega
   rw [show qQ t n D (k : Int) = decide (D k <= t) by unfold qQ; rw [hq]; rfl]
   have HB := Hd hq
   clear hq hh
   go_enter func168, ntmps168
   go_wp2_with (go_at_call 198; refine (kB _ _ _ _ _ _ _ _ hc).mono ?_; rw [HB.out]; rintro e w' ⟨rfl, rfl⟩)
   refine (xZ t n k D S p m a b _ hc hk ha hb).mono ?_
   rintro e w' ⟨rfl, j, rfl⟩
   go_wp2_with fail
   go_ret
   exact ⟨rfl, trN (aV w) _⟩
theorem aAx (t h : Int) (n : Nat) (D S : Nat -> Int) (p m : Nat) (w : World) (hc : bL w p m t n D S) :
 Calls prog 99 #[.pointer (some ⟨p, 0, none⟩), .int .i64 h] w fun e w' => e = .returned (.bool (qQ t n D h)) /\ Below w.heap.size w w' := by
 have hmf : ∀ (fn : Fn) (first cap : Array Value) (w : World), (Instr.makeFunc fn first cap).run prog w = .ok (.func fn first cap) w := fun _ _ _ _ => rfl
 have hc2 := hc.below (aO (aO (aV w) (.cells #[.pointer (some ⟨p, 0, none⟩)] 98)) (.cells #[.int .i64 h] 3))
 have h0 := aA (fZ w (.cells #[.pointer (some ⟨p, 0, none⟩)] 98) (.cells #[.int .i64 h] 3)) 0
 have h1 := aA (eV w (.cells #[.pointer (some ⟨p, 0, none⟩)] 98) (.cells #[.int .i64 h] 3)) 0
 simp only [y0q, List.getElem?_cons_zero] at h0 h1
 have H2 := Hd hc2
 clear hc2 hc
 go_enter func99, ntmps99
 go_wp2_with fail
 refine (qM t h n D S p m _ _ _ H2.out h0 h1).mono ?_
 rintro e w' ⟨rfl, hb⟩
 go_wp2_with fail
 go_ret
 exact ⟨rfl, tr (aO (aO (aV w) _) _) hb⟩
theorem qN (t h : Int) (n : Nat) (D S : Nat -> Int) (p m a b : Nat) (w : World) (hc : bL w p m t n D S) (ha : w.cell? ⟨a, 0, none⟩ = some (.pointer (some ⟨p, 0, none⟩))) (hb : w.cell? ⟨b, 0, none⟩ = some (.int .i64 h)) :
 Calls prog 168 #[.pointer (some ⟨p, 0, none⟩), .int .i64 h, .func (.func 170) #[] #[.pointer (some ⟨a, 0, none⟩), .pointer (some ⟨b, 0, none⟩)]] w
  fun e w' => e = .returned (.bool (uP n S h)) /\ Below w.heap.size w w' := by
 have hn := hc.n1
 cases hq : cQ n h
 . rw [show uP n S h = false by unfold uP; rw [hq]; rfl]
   exact jD
 . have hh : 0 <= h /\ h < (n : Int) := by unfold cQ at hq; simpa using hq
   obtain ⟨k, rfl⟩ := Int.eq_ofNat_of_zero_le hh.1
   have hk : k < 8 := by omega
   rw [show uP n S (k : Int) = (S k == 1) by unfold uP; rw [hq]; rfl]
   have HB := Hd hq
   clear hq hh
   go_enter func168, ntmps168
   go_wp2_with (go_at_call 198; refine (kB _ _ _ _ _ _ _ _ hc).mono ?_; rw [HB.out]; rintro e w' ⟨rfl, rfl⟩)
   refine (yB t n k D S p m a b _ hc hk ha hb).mono ?_
   rintro e w' ⟨rfl, j, rfl⟩
   go_wp2_with fail
   go_ret
   exact ⟨rfl, trN (aV w) _⟩
theorem aAz (t h : Int) (n : Nat) (D S : Nat -> Int) (p m : Nat) (w : World) (hc : bL w p m t n D S) :
 Calls prog 100 #[.pointer (some ⟨p, 0, none⟩), .int .i64 h] w fun e w' => e = .returned (.bool (uP n S h)) /\ Below w.heap.size w w' := by
 have hmf : ∀ (fn : Fn) (first cap : Array Value) (w : World), (Instr.makeFunc fn first cap).run prog w = .ok (.func fn first cap) w := fun _ _ _ _ => rfl
 have hc2 := hc.below (aO (aO (aV w) (.cells #[.pointer (some ⟨p, 0, none⟩)] 98)) (.cells #[.int .i64 h] 3))
 have h0 := aA (fZ w (.cells #[.pointer (some ⟨p, 0, none⟩)] 98) (.cells #[.int .i64 h] 3)) 0
 have h1 := aA (eV w (.cells #[.pointer (some ⟨p, 0, none⟩)] 98) (.cells #[.int .i64 h] 3)) 0
 simp only [y0q, List.getElem?_cons_zero] at h0 h1
 have H2 := Hd hc2
 clear hc2 hc
 go_enter func100, ntmps100
 go_wp2_with fail
 refine (qN t h n D S p m _ _ _ H2.out h0 h1).mono ?_
 rintro e w' ⟨rfl, hb⟩
 go_wp2_with fail
 go_ret
 exact ⟨rfl, tr (aO (aO (aV w) _) _) hb⟩
def stB (a wr cl v : Int) (i : Nat) : Bool := if (dZ cl i && dZ v i) = true then false else if dZ wr i = true then dZ v i else dZ a i
def stV (a wr cl v : Int) : Int := ((bN (stB a wr cl v) 32 : Nat) : Int)
def ob (f : Nat -> Bool) (k : Nat) : Int := ((bN f k : Nat) : Int)
def un (k : Nat) : Int := 2 ^ k % 4294967296
theorem eP (f : Nat -> Bool) (k : Nat) (h : k <= 32) : 0 <= ob f k /\ ob f k < 4294967296 := by
 have a := eQ f k
 have b : 2 ^ k <= 2 ^ 32 := Nat.pow_le_pow_right (by decide) h
 unfold ob; omega
theorem jX (k : Nat) : 0 <= un k /\ un k < 4294967296 := by unfold un; omega
theorem uF (k : Nat) (h : k < 32) : un k = ((2 ^ k : Nat) : Int) := by
 have b : 2 ^ k <= 2 ^ 31 := Nat.pow_le_pow_right (by decide) (by omega)
 unfold un; rw [<- cU]
 generalize 2 ^ k = x at b ⊢
 omega
theorem zU (f : Nat -> Bool) (k : Nat) (h : k < 32) (hf : f k = true) : ob f (k + 1) = ob f k + un k := by
 rw [uF k h]; unfold ob; rw [bN, if_pos hf]; push_cast; rfl
theorem xC (f : Nat -> Bool) (k : Nat) (hf : f k = false) : ob f (k + 1) = ob f k := by
 unfold ob; rw [bN, if_neg (by rw [hf]; decide)]; simp
theorem cN (n : Int) (i : Nat) (h : 0 <= n) : dZ n i = n.toNat.testBit i := by
 obtain ⟨m, rfl⟩ := Int.eq_ofNat_of_zero_le h
 rw [Int.toNat_natCast, Nat.testBit_eq_decide_div_mod_eq]
 unfold dZ
 have : ((m : Int) / 2 ^ i % 2) = ((m / 2 ^ i % 2 : Nat) : Int) := by push_cast; rfl
 rw [this]
 exact decide_eq_decide.2 (by omega)
theorem eW (f : Nat -> Bool) (i : Nat) : dZ ((bN f 32 : Nat) : Int) i = (decide (i < 32) && f i) := by
 rw [cN _ _ (by omega), Int.toNat_natCast, cE]
theorem lH (n : Int) (i : Nat) (h0 : 0 <= n) (h1 : n < 4294967296) (hi : 32 <= i) : dZ n i = false := by
 rw [cN n i h0]
 apply Nat.testBit_lt_two_pow
 have : 2 ^ 32 <= 2 ^ i := Nat.pow_le_pow_right (by decide) hi
 omega
theorem jS {a b : Int} (a0 : 0 <= a) (a1 : a < 4294967296) (b0 : 0 <= b) (b1 : b < 4294967296) (h : ∀ i, i < 32 -> dZ a i = dZ b i) : a = b := by
 have : a.toNat = b.toNat := by
  apply Nat.eq_of_testBit_eq
  intro i
  rw [<- cN a i a0, <- cN b i b0]
  by_cases hi : i < 32
  . exact h i hi
  . rw [lH a i a0 a1 (by omega), lH b i b0 b1 (by omega)]
 omega
theorem iJ (a b : Int) (a0 : 0 <= a) (a1 : a < 4294967296) (b0 : 0 <= b) (b1 : b < 4294967296) : 0 <= bits BinOp.andNot IntKind.u32 a b /\ bits BinOp.andNot IntKind.u32 a b < 4294967296 := by
 rw [u32_andNot _ _ a0 a1 b0 b1]
 have : a.toNat &&& (4294967295 - b.toNat) <= a.toNat := Nat.and_le_left
 omega
theorem sX (a b : Int) (a0 : 0 <= a) (a1 : a < 4294967296) (b0 : 0 <= b) (b1 : b < 4294967296) : bits BinOp.or IntKind.u32 a b = ((a.toNat ||| b.toNat : Nat) : Int) := by
 obtain ⟨m, rfl⟩ := Int.eq_ofNat_of_zero_le a0
 obtain ⟨n, rfl⟩ := Int.eq_ofNat_of_zero_le b0
 rw [u32_or_nat _ _ (by omega) (by omega)]; simp
theorem pP (a b : Int) (a0 : 0 <= a) (a1 : a < 4294967296) (b0 : 0 <= b) (b1 : b < 4294967296) : 0 <= bits BinOp.or IntKind.u32 a b /\ bits BinOp.or IntKind.u32 a b < 4294967296 := by
 rw [sX _ _ a0 a1 b0 b1]
 have : a.toNat ||| b.toNat < 2 ^ 32 := Nat.or_lt_two_pow (by omega) (by omega)
 omega
theorem iO (n : Int) (i : Nat) (h : 0 <= n) : ((n.toNat / 2 ^ i % 2 : Nat) : Int) = n / 2 ^ i % 2 := by
 have h1 : n = ((n.toNat : Nat) : Int) := by omega
 have h2 : (2 : Int) ^ i = ((2 ^ i : Nat) : Int) := by push_cast; rfl
 conv => rhs; rw [h1, h2]
 rw [<- Int.natCast_ediv]; omega
theorem pA (n : Int) (k : Nat) (h0 : 0 <= n) (hk : k < 32) : (field n (k : Int) 1 == 1) = dZ n k := by
 unfold field dZ
 rw [if_pos (by unfold mV; simp; omega), Int.toNat_natCast]
 have h : ((n.toNat / 2 ^ k % 2 ^ min (1 : Int).toNat 32 : Nat) : Int) = n / 2 ^ k % 2 := by
  have : min (1 : Int).toNat 32 = 1 := by decide
  rw [this, Nat.pow_one]; exact iO n k h0
 rw [h]
 by_cases e : n / 2 ^ k % 2 = 1
 . rw [e]; rfl
 . rw [beq_eq_false_iff_ne.2 e, decide_eq_false e]
def tk (b : Bool) : Int := cond b 1 0
theorem eD (n : Int) (k : Nat) (b : Bool) (hk : k < 32) (h0 : 0 <= n) (i : Nat) (hi : i < 32) : dZ (put n (k : Int) 1 (tk b)) i = if i = k then b else dZ n i := by
 unfold put
 rw [if_pos (by unfold mV; simp; omega), eW, decide_eq_true hi, Bool.true_and]
 unfold dL
 rw [Int.toNat_natCast, show (1 : Int).toNat = 1 from rfl]
 by_cases e : i = k
 . subst e
   rw [if_pos (by omega), if_pos rfl, Nat.sub_self]
   cases b <;> rfl
 . rw [if_neg (by omega), if_neg e, cN n i h0]
theorem cK (n low width v : Int) (h0 : 0 <= n) (h1 : n < 4294967296) : 0 <= put n low width v /\ put n low width v < 4294967296 := by
 unfold put; split
 . have := eQ (dL n low width v) 32
   have e32 : (2 : Nat) ^ 32 = 4294967296 := by decide
   omega
 . omega
end Go.Proofs.YtealhichdbimlaaGreat.B
