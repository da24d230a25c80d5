/- A part of the proof of a law of layer 12: ac. -/
import Derived.Test.YtaohacadochldaaGreatZNab
import Derived.Deep.Cut
set_option linter.unusedVariables false
set_option linter.unusedSimpArgs false
set_option maxHeartbeats 12800000
set_option maxRecDepth 100000
namespace Go.Proofs.YtaohacadochldaaGreat.B
open Go.Proofs.Tryz
open List renaming getElem?_toArray -> y0q
open Go.ChangeShapes Go.WideShapes Go.RowKit Go.Sort Go.MapKept
def kJ (t : Int) (n : Nat) (D S : Nat -> Int) (m : Nat) : List Value := [.int .u64 t, .int .i64 n] ++ (il .u64 D 8 ++ (il .u32 S 8 ++ [.map (some m)]))
theorem aCd (t : Int) (n : Nat) (D S : Nat -> Int) (m i : Nat) (h : i < 8) : (kJ t n D S m)[2 + i]? = some (.int .u64 (D i)) := by
 unfold kJ; rw [fF _ _ 2 i (by rfl), oA _ _ _ (by rw [dN]; exact h), mX _ _ _ _ h]
theorem aCf (t : Int) (n : Nat) (D S : Nat -> Int) (m i : Nat) (h : i < 8) : (kJ t n D S m)[10 + i]? = some (.int .u32 (S i)) := by
 unfold kJ; rw [show 10 + i = 2 + (8 + i) by omega, fF _ _ 2 _ (by rfl), fF _ _ 8 i (by rw [dN]), oA _ _ _ (by rw [dN]; exact h), mX _ _ _ _ h]
theorem aCe (t : Int) (n : Nat) (D S : Nat -> Int) (m : Nat) : (kJ t n D S m)[18]? = some (.map (some m)) := by
 unfold kJ; rw [show 18 = 2 + (8 + (8 + 0)) by omega, fF _ _ 2 _ (by rfl), fF _ _ 8 _ (by rw [dN]), fF _ _ 8 _ (by rw [dN])]; rfl
theorem vI (t : Int) (n : Nat) (D S : Nat -> Int) (m : Nat) (v : Int) : (kJ t n D S m).set 0 (.int .u64 v) = kJ v n D S m := rfl
theorem vG (t : Int) (n : Nat) (D S : Nat -> Int) (m i : Nat) (v : Int) (h : i < 8) : (kJ t n D S m).set (2 + i) (.int .u64 v) = kJ t n (upd D i v) S m := by
 unfold kJ; rw [mQ _ _ 2 i _ (by rfl), gG _ _ _ _ (by rw [dN]; exact h), wF]
theorem vH (t : Int) (n : Nat) (D S : Nat -> Int) (m i : Nat) (v : Int) (h : i < 8) : (kJ t n D S m).set (10 + i) (.int .u32 v) = kJ t n D (upd S i v) m := by
 unfold kJ; rw [show 10 + i = 2 + (8 + i) by omega, mQ _ _ 2 _ _ (by rfl), mQ _ _ 8 i _ (by rw [dN]), gG _ _ _ _ (by rw [dN]; exact h), wF]
structure bD (w : World) (p m : Nat) (t : Int) (n : Nat) (D S : Nat -> Int) : Prop where
 cell : w.heap[p]? = some (.cells (kJ t n D S m).toArray 166 (0, 0))
 map : bI w ek fP m (iF n)
 t0 : 0 <= t
 t1 : t < 18446744073709551616
 n0 : 1 <= n
 n1 : n <= 8
 d : zE D
 s : zF S
section
variable {w w' : World} {p m n : Nat} {t : Int} {D S : Nat -> Int}
theorem bD.ltp (h : bD w p m t n D S) : p < w.heap.size := lt_of_block h.cell
theorem bD.ltm (h : bD w p m t n D S) : m < w.heap.size := h.map.lt
theorem bD.ne (h : bD w p m t n D S) : p ≠ m := fun e => by obtain ⟨_, _, hb, _⟩ := h.map; rw [<- e, h.cell] at hb; cases hb
theorem bD.kept (h : bD w p m t n D S) (h1 : w'.heap[p]? = w.heap[p]?) (h2 : w'.heap[m]? = w.heap[m]?) : bD w' p m t n D S :=
 ⟨h1.trans h.cell, h.map.kept h2, h.t0, h.t1, h.n0, h.n1, h.d, h.s⟩
theorem bD.off {X : Nat -> Prop} (h : bD w p m t n D S) (ho : aD X w w') (h1 : ¬ X p) (h2 : ¬ X m) : bD w' p m t n D S :=
 h.kept (ho.block p h.ltp h1) (ho.block m h.ltm h2)
theorem bD.below (h : bD w p m t n D S) (ho : Below w.heap.size w w') : bD w' p m t n D S := h.kept (ho.block p h.ltp) (ho.block m h.ltm)
theorem bD.c0 (h : bD w p m t n D S) : w.cell? ⟨p, 0, none⟩ = some (.int .u64 t) := by have := aA h.cell 0; simpa [kJ] using this
theorem bD.c1 (h : bD w p m t n D S) : w.cell? ⟨p, 1, none⟩ = some (.int .i64 n) := by have := aA h.cell 1; simpa [kJ] using this
theorem bD.cD (h : bD w p m t n D S) (i : Nat) (hi : i < 8) : w.cell? ⟨p, 2 + i, none⟩ = some (.int .u64 (D i)) := by
 have := aA h.cell (2 + i); rw [this, y0q]; exact aCd _ _ _ _ _ _ hi
theorem bD.cS (h : bD w p m t n D S) (i : Nat) (hi : i < 8) : w.cell? ⟨p, 10 + i, none⟩ = some (.int .u32 (S i)) := by
 have := aA h.cell (10 + i); rw [this, y0q]; exact aCf _ _ _ _ _ _ hi
theorem bD.cM (h : bD w p m t n D S) : w.cell? ⟨p, 18, none⟩ = some (.map (some m)) := by
 have := aA h.cell 18; rw [this, y0q]; exact aCe _ _ _ _ _
theorem bD.free (h : bD w p m t n D S) (j : Nat) : w.frozen? ⟨p, j, none⟩ = false := aH h.cell j
theorem bD.set (h : bD w p m t n D S) (j : Nat) (v : Value) {t' : Int} {D' S' : Nat -> Int} (he : (kJ t n D S m).set j v = kJ t' n D' S' m) (ht : 0 <= t' /\ t' < 18446744073709551616) (hd : zE D') (hs : zF S') :
 bD (w.setCell ⟨p, j, none⟩ v) p m t' n D' S' :=
 ⟨by rw [aK h.cell, <- he]; simp, h.map.kept (Below.heap_setCell w ⟨p, j, none⟩ v m (fun e => h.ne e.symm)), ht.1, ht.2, h.n0, h.n1, hd, hs⟩
theorem bD.setT (h : bD w p m t n D S) {v : Int} (v0 : 0 <= v) (v1 : v < 18446744073709551616) : bD (w.setCell ⟨p, 0, none⟩ (.int .u64 v)) p m v n D S :=
 h.set 0 _ (vI _ _ _ _ _ _) ⟨v0, v1⟩ h.d h.s
theorem bD.setD (h : bD w p m t n D S) (i : Nat) {v : Int} (hi : i < 8) (v0 : 0 <= v) (v1 : v < 18446744073709551616) : bD (w.setCell ⟨p, 2 + i, none⟩ (.int .u64 v)) p m t n (upd D i v) S :=
 h.set _ _ (vG _ _ _ _ _ _ _ hi) ⟨h.t0, h.t1⟩ (h.d.upd i v0 v1) h.s
theorem bD.setS (h : bD w p m t n D S) (i : Nat) {v : Int} (hi : i < 8) (v0 : 0 <= v) (v1 : v < 4294967296) : bD (w.setCell ⟨p, 10 + i, none⟩ (.int .u32 v)) p m t n D (upd S i v) :=
 h.set _ _ (vH _ _ _ _ _ _ _ hi) ⟨h.t0, h.t1⟩ h.d (h.s.upd i v0 v1)
end
theorem cN {B : Nat} {w w' : World} (h : Below B w w') (b : Nat) (o : Obj) (hb : B <= b) : Below B w (Go.ChangeMaps.setBlock w' b o) :=
 ⟨h.os, h.tape, h.output, by simpa [Go.ChangeMaps.setBlock] using h.size, fun k hk => by
  have : b ≠ k := by omega
  simp only [Go.ChangeMaps.setBlock, Array.getElem?_setIfInBounds, if_neg this]; exact h.block k hk⟩
theorem aDn (w : World) : ∃ es c w', (Instr.mapUpdate 164 (.map (some w.heap.size)) (ek 49144) (bN 3 0)).run prog (w.alloc (.map #[] 0)).drew = .ok () w' /\
 (Instr.mapUpdate 164 (.map (some w.heap.size)) (ek 49148) (bN 4 0)).run prog w' = .ok () es /\ bI es ek fP w.heap.size (iF 0) /\ Below w.heap.size w es /\ c = () := by
 have M0 : bI (w.alloc (.map #[] 0)).drew ek fP w.heap.size [] := (iG w ek fP).kept rfl
 obtain ⟨e1, c1, h1, m1⟩ := M0.update bY underlying164 49144 (bN 3 0) ⟨by omega, by omega⟩
 obtain ⟨e2, c2, h2, m2⟩ := m1.update bY underlying164 49148 (bN 4 0) ⟨by omega, by omega⟩
 refine ⟨_, (), _, h1, h2, m2.perm ?_, ?_, rfl⟩
 . simp [eW, iF]
 . exact cN (cN (uH (aO (aT w) _)) _ _ (Nat.le_refl _)) _ _ (Nat.le_refl _)
theorem aCv (w : World) : ∃ es c w', (Instr.mapUpdate 164 (.map (some w.heap.size)) (ek 49148) (bN 4 0)).run prog (w.alloc (.map #[] 0)).drew = .ok () w' /\
 (Instr.mapUpdate 164 (.map (some w.heap.size)) (ek 49144) (bN 3 0)).run prog w' = .ok () es /\ bI es ek fP w.heap.size (iF 0) /\ Below w.heap.size w es /\ c = () := by
 have M0 : bI (w.alloc (.map #[] 0)).drew ek fP w.heap.size [] := (iG w ek fP).kept rfl
 obtain ⟨e1, c1, h1, m1⟩ := M0.update bY underlying164 49148 (bN 4 0) ⟨by omega, by omega⟩
 obtain ⟨e2, c2, h2, m2⟩ := m1.update bY underlying164 49144 (bN 3 0) ⟨by omega, by omega⟩
 refine ⟨_, (), _, h1, h2, m2.perm ?_, ?_, rfl⟩
 . simp only [eW, iF]; exact List.Perm.swap _ _ _
 . exact cN (cN (uH (aO (aT w) _)) _ _ (Nat.le_refl _)) _ _ (Nat.le_refl _)
theorem wR (k : Nat) (h : k <= 7) : eW (4 * (k : Int)) (bN 0 k) (iF k) = (4 * (k : Int), bN 0 k) :: iF k :=
 jV fun p hp => by rcases nE k p hp with g | g | ⟨j, hj, g | g | g⟩ <;> omega
theorem lB {P : Prop} (h : P := by
 rcases List.mem_cons.1 hp with rfl | hp
 . show (4 * (k : Int)) ≠ _; omega
 . rcases nE k p hp with g | g | ⟨j, hj, g | g | g⟩ <;> omega
 ) : P := h
theorem wS (k : Nat) (h : k <= 7) : eW (16384 + 8 * (k : Int)) (bN 1 k) ((4 * (k : Int), bN 0 k) :: iF k) = (16384 + 8 * (k : Int), bN 1 k) :: (4 * (k : Int), bN 0 k) :: iF k :=
 jV fun p hp => by
  exact lB
theorem wT (k : Nat) (h : k <= 7) : eW (16384 + 8 * (k : Int) + 4) (bN 2 k) ((16384 + 8 * (k : Int), bN 1 k) :: (4 * (k : Int), bN 0 k) :: iF k) = iF (k + 1) :=
 jV fun p hp => by
  rcases List.mem_cons.1 hp with rfl | hp
  . show (16384 + 8 * (k : Int)) ≠ _; omega
  . exact lB
def uN (w w' : World) (n : Nat) : Prop := bI w' ek fP w.heap.size (iF n) /\ Below w.heap.size w w'
theorem zM (n : Nat) (w : World) (hn : n <= 8) :
 Calls prog 175 #[.int .i64 n] w fun e w' => e = .returned (.map (some w.heap.size)) /\ uN w w' n := by
 have hmm := @run_makeMap prog
 obtain ⟨X, _, V, hx1, hx2, hX, hbX, _⟩ := aDn w
 obtain ⟨Y, _, Z, hy1, hy2, hY, hbY, _⟩ := aCv w
 have HX := Hd hX
 have HY := Hd hY
 have HXb := Hd hbX
 have HYb := Hd hbY
 clear hX hY hbX hbY
 unfold ek bN at hx1 hx2 hy1 hy2
 go_enter func175, ntmps175
 go_upto_region 1 with (fail)
 refine iL fun K1 hK1 => ?_
 go_cut [3] from 12 (fun v w' => v = .map (some w.heap.size) /\ uN w w' 0)
 case first =>
  go_region
  all_goals
   go_wp2_with fail
   go_meet
   case rel => exact ⟨rfl, by first | exact ⟨HX.out, HXb.out⟩ | exact ⟨HY.out, HYb.out⟩⟩
 case rest =>
  obtain ⟨rfl, hcut⟩ := hcut
  refine hK1 _ _ ?_
  clear hK1 hx1 hx2 hy1 hy2 HX HY HXb HYb
  go_wp2_with fail
  go_loopw [14] (fun i wr => ∃ k : Nat, k <= n /\ i = .int .i64 k /\ uN w wr k) (fun i _ => n - (intOf i).toNat)
  case atStart => exact ⟨0, by omega, rfl, hcut⟩
  case round =>
   clear hcut
   obtain ⟨k, hk, rfl, hM, hb⟩ := hrel
   by_cases hlt : k < n
   . have e1 : (8 * (k : Int)) % 4294967296 = 8 * k := by omega
     have g1 := wR k (by omega)
     have g2 := wS k (by omega)
     have g3 := wT k (by omega)
     have G1 := Hd g1
     have G2 := Hd g2
     have G3 := Hd g3
     clear g1 g2 g3
     go_wp2_with (first
      | (at_mapUpdate; refine gD bY rfl _ _ _ _ rfl underlying164 rfl hM (4 * (k : Int)) (bN 0 k) rfl rfl ⟨by omega, by omega⟩ ?_; intro w3 hM3 ho3; rw [G1.out] at hM3)
      | (at_mapUpdate; refine gD bY rfl _ _ _ _ rfl underlying164 rfl hM3 (16384 + 8 * (k : Int)) (bN 1 k) rfl rfl ⟨by omega, by omega⟩ ?_; intro w4 hM4 ho4; rw [G2.out] at hM4)
      | (at_mapUpdate; refine gD bY rfl _ _ _ _ rfl underlying164 rfl hM4 (16384 + 8 * (k : Int) + 4) (bN 2 k) rfl rfl ⟨by omega, by omega⟩ ?_; intro w5 hM5 ho5; rw [G3.out] at hM5))
     go_roundw
     case rel => exact ⟨k + 1, by omega, by go_num, hM5, aD.toBelow (aD.toBelow (aD.toBelow hb ho3 (fun _ h => by omega) (Nat.le_refl _)) ho4 (fun _ h => by omega) (Nat.le_refl _)) ho5 (fun _ h => by omega) (Nat.le_refl _)⟩
     case measure => simp [intOf]; omega
   . obtain rfl : k = n := by omega
     go_wp2_with fail
     go_ret
     exact ⟨rfl, hM, hb⟩
def rsD (D : Nat -> Int) (k : Nat) : Nat -> Int := fun i => if i < k then 18446744073709551615 else D i
def rsS (S : Nat -> Int) (k : Nat) : Nat -> Int := fun i => if i < k then 0 else S i
theorem yB (D : Nat -> Int) : rsD D 0 = D := by funext i; simp [rsD]
theorem yD (S : Nat -> Int) : rsS S 0 = S := by funext i; simp [rsS]
theorem lI {P : Prop} (h : P := by
 by_cases e : i = k
 . subst e; simp
 . rw [if_neg e]; simp only [show (i < k + 1) = (i < k) from propext (by omega)]
 ) : P := h
theorem yA (D : Nat -> Int) (k : Nat) : upd (rsD D k) k 18446744073709551615 = rsD D (k + 1) := by
 funext i; unfold upd rsD
 exact lI
theorem yC (S : Nat -> Int) (k : Nat) : upd (rsS S k) k 0 = rsS S (k + 1) := by
 funext i; unfold upd rsS
 exact lI
theorem bD.swapDS {w : World} {p m n i : Nat} {t : Int} {D S : Nat -> Int} (h : bD w p m t n D S) (hi : i < 8) :
 bD ((w.setCell ⟨p, 2 + i, none⟩ (.int .u64 18446744073709551615)).setCell ⟨p, 10 + i, none⟩ (.int .u32 0)) p m t n (upd D i 18446744073709551615) (upd S i 0) :=
 (h.setD i hi (by omega) (by omega)).setS i hi (by omega) (by omega)
theorem bD.swapSD {w : World} {p m n i : Nat} {t : Int} {D S : Nat -> Int} (h : bD w p m t n D S) (hi : i < 8) :
 bD ((w.setCell ⟨p, 10 + i, none⟩ (.int .u32 0)).setCell ⟨p, 2 + i, none⟩ (.int .u64 18446744073709551615)) p m t n (upd D i 18446744073709551615) (upd S i 0) :=
 (h.setS i hi (by omega) (by omega)).setD i hi (by omega) (by omega)
theorem bD.drew {w : World} {p m n : Nat} {t : Int} {D S : Nat -> Int} (h : bD w p m t n D S) : bD w.drew p m t n D S := h.kept rfl rfl
theorem aBA (t : Int) (n : Nat) (D S : Nat -> Int) (p m : Nat) (w : World) (h : bD w p m t n D S) :
 Calls prog 176 #[.pointer (some ⟨p, 0, none⟩)] w
  fun e w' => e = .returned (.tuple #[]) /\ bD w' p m t n (rsD D 8) (rsS S 8) /\ aD (· = p) w w' := by
 have H := Hd h
 clear h
 go_enter func176, ntmps176
 go_wp2_with fail
 go_loopw [5] (fun i wr => ∃ k : Nat, k <= 8 /\ i = .int .i64 k /\ bD wr p m t n (rsD D k) (rsS S k) /\ aD (· = p) w wr) (fun i _ => 8 - (intOf i).toNat)
 case atStart => exact ⟨0, by omega, rfl, by rw [yB, yD]; exact H.out, aD.refl _ _⟩
 case round =>
  obtain ⟨k, hk, rfl, hC, ho⟩ := hrel
  by_cases hlt : k < 8
  . have c1 := hC.cD k hlt
    have c2 := hC.cS k hlt
    have f1 := hC.free (2 + k)
    have f2 := hC.free (10 + k)
    have H1 := Hd (hC.drew.swapDS hlt)
    have H2 := Hd (hC.drew.swapSD hlt)
    have O1 := Hd ((ho.trans (jU wr)).trans ((aG wr.drew p (2 + k) (.int .u64 18446744073709551615)).trans (aG _ p (10 + k) (.int .u32 0))))
    have O2 := Hd ((ho.trans (jU wr)).trans ((aG wr.drew p (10 + k) (.int .u32 0)).trans (aG _ p (2 + k) (.int .u64 18446744073709551615))))
    have E1 := Hd (yA D k)
    have E2 := Hd (yC S k)
    clear hC ho
    go_wp2_with fail
    go_region
    all_goals
     go_wp2_with fail
     go_roundw
     case rel => exact ⟨k + 1, by omega, by go_num, by rw [<- E1.out, <- E2.out]; first | exact H1.out | exact H2.out, by first | exact O1.out | exact O2.out⟩
     case measure => simp [intOf]; omega
  . obtain rfl : k = 8 := by omega
    go_wp2_with fail
    go_end0
    exact ⟨rfl, hC, ho⟩
def nvD : Nat -> Int := fun _ => 18446744073709551615
def pX : Nat -> Int := fun _ => 0
theorem bD.congr {w : World} {p m n : Nat} {t : Int} {D S D' S' : Nat -> Int} (h : bD w p m t n D S) (hd : ∀ i, i < 8 -> D i = D' i) (hs : ∀ i, i < 8 -> S i = S' i) (hD : zE D') (hS : zF S') : bD w p m t n D' S' :=
 ⟨by rw [h.cell]; unfold kJ; rw [oP _ _ _ _ hd, oP _ _ _ _ hs], h.map, h.t0, h.t1, h.n0, h.n1, hD, hS⟩
theorem qZ : zE nvD := fun _ => by unfold nvD; omega
theorem nK : zF pX := fun _ => by unfold pX; omega
theorem rN (t : Int) (n : Nat) (D S : Nat -> Int) (p m : Nat) (w : World) (h : bD w p m t n D S) :
 Calls prog 176 #[.pointer (some ⟨p, 0, none⟩)] w
  fun e w' => e = .returned (.tuple #[]) /\ bD w' p m t n nvD pX /\ aD (· = p) w w' :=
 (aBA t n D S p m w h).mono fun e w' g => ⟨g.1, g.2.1.congr (fun i hi => by unfold rsD nvD; rw [if_pos hi]) (fun i hi => by unfold rsS pX; rw [if_pos hi]) qZ nK, g.2.2⟩
def aDY (w : World) (n : Nat) (e : Ending) (w' : World) : Prop :=
 ∃ p, w.heap.size <= p /\ e = .returned (.tuple #[.pointer (some ⟨p, 0, none⟩), .int .i64 0]) /\ bD w' p w.heap.size 0 n nvD pX /\ Below w.heap.size w w'
theorem aDd (n : Nat) (w : World) (h1 : 1 <= n) (h8 : n <= 8) : Calls prog 97 #[.int .i64 n] w (aDY w n) := by
 go_enter func97, ntmps97
 go_wp2_with fail
 refine (zM n w h8).mono ?_
 rintro e w1 ⟨rfl, hM, hb⟩
 go_wp2_with fail
 have hC : bD (w1.alloc (.cells (kJ 0 n pX pX w.heap.size).toArray 166)) w1.heap.size w.heap.size 0 n pX pX :=
  ⟨aF _ _, hM.kept (aJ _ _ hM.lt), by omega, by omega, h1, h8, fun _ => by unfold pX; omega, nK⟩
 have hb1 := aO hb (.cells (kJ 0 n pX pX w.heap.size).toArray 166)
 have hp : w.heap.size <= w1.heap.size := hb.size
 refine (rN 0 n pX pX _ _ _ hC).mono ?_
 rintro e w2 ⟨rfl, hC2, ho2⟩
 go_wp2_with fail
 go_ret2
 exact ⟨_, hp, rfl, hC2, aD.toBelow hb1 ho2 (fun _ h => by omega) (Nat.le_refl _)⟩
theorem aI {P : Prop} (h : P := by
 go_wp2_with fail
 go_ret
 exact ⟨rfl, rfl⟩
 ) : P := h
theorem qI (t : Int) (n : Nat) (D S : Nat -> Int) (p m : Nat) (w : World) (h : bD w p m t n D S) :
 Calls prog 116 #[.pointer (some ⟨p, 0, none⟩)] w fun e w' => e = .returned (.int .i64 n) /\ w = w' := by
 have c1 := h.c1
 clear h
 go_enter func116, ntmps116
 exact aI
theorem aCc (t : Int) (n : Nat) (D S : Nat -> Int) (p m : Nat) (w : World) (h : bD w p m t n D S) :
 Calls prog 54 #[.pointer (some ⟨p, 0, none⟩)] w fun e w' => e = .returned (.int .u64 t) /\ w = w' := by
 have c1 := h.c0
 clear h
 go_enter func54, ntmps54
 exact aI
def cC (n : Nat) (h : Int) : Bool := decide (0 <= h /\ h < (n : Int))
theorem iT (h t : Int) (n : Nat) (D S : Nat -> Int) (p m : Nat) (w : World) (hc : bD w p m t n D S) :
 Calls prog 96 #[.pointer (some ⟨p, 0, none⟩), .int .i64 h] w fun e w' => e = .returned (.bool (cC n h)) /\ w = w' := by
 by_cases h0 : 0 <= h
 . by_cases h1 : h < (n : Int)
   . rw [show cC n h = true from decide_eq_true ⟨h0, h1⟩]
     go_enter func96, ntmps96
     go_wp2_with (go_at_call 116; refine (qI _ _ _ _ _ _ _ hc).mono ?_; rintro e w' ⟨rfl, rfl⟩)
     go_ret
     exact ⟨rfl, rfl⟩
   . rw [show cC n h = false from decide_eq_false (fun e => h1 e.2)]
     go_enter func96, ntmps96
     go_wp2_with (go_at_call 116; refine (qI _ _ _ _ _ _ _ hc).mono ?_; rintro e w' ⟨rfl, rfl⟩)
     go_ret
     exact ⟨bM (decide_eq_false (by omega)), rfl⟩
 . rw [show cC n h = false from decide_eq_false (fun e => h0 e.1)]
   go_enter func96, ntmps96
   exact aI
def oF (n : Nat) (D : Nat -> Int) (h : Int) : Int := if cC n h = true then D h.toNat else 18446744073709551615
theorem kX {P : Prop} (h : P := by
 go_enter func53, ntmps53
 go_wp2_with (go_at_call 96; refine (iT _ _ _ _ _ _ _ _ hc).mono ?_; rw [HB.out]; rintro e w' ⟨rfl, rfl⟩)
 go_ret
 exact ⟨rfl, rfl⟩
 ) : P := h
theorem vB (h t : Int) (n : Nat) (D S : Nat -> Int) (p m : Nat) (w : World) (hc : bD w p m t n D S) :
 Calls prog 53 #[.pointer (some ⟨p, 0, none⟩), .int .i64 h] w fun e w' => e = .returned (.int .u64 (oF n D h)) /\ w = w' := by
 have hn := hc.n1
 cases hb : cC n h
 . rw [show oF n D h = 18446744073709551615 by unfold oF; rw [hb]; rfl]
   have HB := Hd hb
   clear hb
   exact kX
 . have hh : 0 <= h /\ h < (n : Int) := by unfold cC at hb; simpa using hb
   obtain ⟨k, rfl⟩ := Int.eq_ofNat_of_zero_le hh.1
   rw [show oF n D (k : Int) = D k by unfold oF; rw [if_pos hb]; rfl]
   have hk : k < 8 := by omega
   have c := hc.cD k hk
   have HB := Hd hb
   clear hb hh
   exact kX
theorem aCb (v t : Int) (n : Nat) (D S : Nat -> Int) (p m : Nat) (w : World) (hc : bD w p m t n D S) (v0 : 0 <= v) (v1 : v < 18446744073709551616) :
 Calls prog 270 #[.pointer (some ⟨p, 0, none⟩), .int .u64 v] w fun e w' => e = .returned (.tuple #[]) /\ bD w' p m (eF t v) n D S /\ aD (· = p) w w' := by
 have c := hc.c0
 have f := hc.free 0
 have t0 := hc.t0
 have t1 := hc.t1
 have b := dV t0 t1 v0 v1
 go_enter func270, ntmps270
 go_wp2_with (go_at_call 274; refine (Add _ _ _ t0 t1 v0 v1).mono ?_; rintro e w' ⟨rfl, rfl⟩)
 go_end0
 exact ⟨rfl, hc.setT b.1 b.2, aG _ _ _ _⟩
def vD (t : Int) (n : Nat) (D : Nat -> Int) (h : Int) : Bool := cC n h && decide (D h.toNat <= t)
def zD (n : Nat) (S : Nat -> Int) (h : Int) : Bool := cC n h && (S h.toNat == 1)
theorem aA9 (t : Int) (n k : Nat) (D S : Nat -> Int) (p m a b : Nat) (w : World) (hc : bD w p m t n D S) (hk : k < 8) (ha : w.cell? ⟨a, 0, none⟩ = some (.pointer (some ⟨p, 0, none⟩))) (hb : w.cell? ⟨b, 0, none⟩ = some (.int .i64 k)) :
 Calls prog 150 #[.pointer (some ⟨a, 0, none⟩), .pointer (some ⟨b, 0, none⟩)] w fun e w' => e = .returned (.bool (decide (D k <= t))) /\ ∃ j, w' = w.drewN j := by
 have c0 := hc.c0
 have c1 := hc.cD k hk
 have hl := hc.ltp
 clear hc
 go_enter func150, ntmps150
 go_wp2_with fail
 go_quiet (fail)
 go_wp2_with fail
 go_ret
 exact ⟨rfl, nq, rfl⟩
theorem aBB (t : Int) (n k : Nat) (D S : Nat -> Int) (p m a b : Nat) (w : World) (hc : bD w p m t n D S) (hk : k < 8) (ha : w.cell? ⟨a, 0, none⟩ = some (.pointer (some ⟨p, 0, none⟩))) (hb : w.cell? ⟨b, 0, none⟩ = some (.int .i64 k)) :
 Calls prog 192 #[.pointer (some ⟨a, 0, none⟩), .pointer (some ⟨b, 0, none⟩)] w fun e w' => e = .returned (.bool (S k == 1)) /\ ∃ j, w' = w.drewN j := by
 have c1 := hc.cS k hk
 have hl := hc.ltp
 clear hc
 go_enter func192, ntmps192
 go_wp2_with fail
 go_quiet (fail)
 go_wp2_with fail
 go_ret
 exact ⟨rfl, nq, rfl⟩
theorem lG {P : Prop} (h : P := by
 have HB := Hd hq
 clear hq
 go_enter func149, ntmps149
 go_wp2_with (go_at_call 96; refine (iT _ _ _ _ _ _ _ _ hc).mono ?_; rw [HB.out]; rintro e w' ⟨rfl, rfl⟩)
 go_ret
 exact ⟨rfl, aT w⟩
 ) : P := h
theorem uZ (t h : Int) (n : Nat) (D S : Nat -> Int) (p m a b : Nat) (w : World) (hc : bD w p m t n D S) (ha : w.cell? ⟨a, 0, none⟩ = some (.pointer (some ⟨p, 0, none⟩))) (hb : w.cell? ⟨b, 0, none⟩ = some (.int .i64 h)) :
 Calls prog 149 #[.pointer (some ⟨p, 0, none⟩), .int .i64 h, .func (.func 150) #[] #[.pointer (some ⟨a, 0, none⟩), .pointer (some ⟨b, 0, none⟩)]] w
  fun e w' => e = .returned (.bool (vD t n D h)) /\ Below w.heap.size w w' := by
 have hn := hc.n1
 cases hq : cC n h
 . rw [show vD t n D h = false by unfold vD; rw [hq]; rfl]
   exact lG
 . have hh : 0 <= h /\ h < (n : Int) := by unfold cC at hq; simpa using hq
   obtain ⟨k, rfl⟩ := Int.eq_ofNat_of_zero_le hh.1
   have hk : k < 8 := by omega
   rw [show vD t n D (k : Int) = decide (D k <= t) by unfold vD; rw [hq]; rfl]
   have HB := Hd hq
   clear hq hh
   go_enter func149, ntmps149
   go_wp2_with (go_at_call 96; refine (iT _ _ _ _ _ _ _ _ hc).mono ?_; rw [HB.out]; rintro e w' ⟨rfl, rfl⟩)
   refine (aA9 t n k D S p m a b _ hc hk ha hb).mono ?_
   rintro e w' ⟨rfl, j, rfl⟩
   go_wp2_with fail
   go_ret
   exact ⟨rfl, nS (aT w) _⟩
theorem aCY (t h : Int) (n : Nat) (D S : Nat -> Int) (p m : Nat) (w : World) (hc : bD w p m t n D S) :
 Calls prog 83 #[.pointer (some ⟨p, 0, none⟩), .int .i64 h] w fun e w' => e = .returned (.bool (vD t n D h)) /\ Below w.heap.size w w' := by
 have hmf : ∀ (fn : Fn) (first cap : Array Value) (w : World), (Instr.makeFunc fn first cap).run prog w = .ok (.func fn first cap) w := fun _ _ _ _ => rfl
 have hc2 := hc.below (aO (aO (aT w) (.cells #[.pointer (some ⟨p, 0, none⟩)] 110)) (.cells #[.int .i64 h] 3))
 have h0 := aA (hJ w (.cells #[.pointer (some ⟨p, 0, none⟩)] 110) (.cells #[.int .i64 h] 3)) 0
 have h1 := aA (fU w (.cells #[.pointer (some ⟨p, 0, none⟩)] 110) (.cells #[.int .i64 h] 3)) 0
 simp only [y0q, List.getElem?_cons_zero] at h0 h1
 have H2 := Hd hc2
 clear hc2 hc
 go_enter func83, ntmps83
 go_wp2_with fail
 refine (uZ t h n D S p m _ _ _ H2.out h0 h1).mono ?_
 rintro e w' ⟨rfl, hb⟩
 go_wp2_with fail
 go_ret
 exact ⟨rfl, tr (aO (aO (aT w) _) _) hb⟩
theorem vA (t h : Int) (n : Nat) (D S : Nat -> Int) (p m a b : Nat) (w : World) (hc : bD w p m t n D S) (ha : w.cell? ⟨a, 0, none⟩ = some (.pointer (some ⟨p, 0, none⟩))) (hb : w.cell? ⟨b, 0, none⟩ = some (.int .i64 h)) :
 Calls prog 149 #[.pointer (some ⟨p, 0, none⟩), .int .i64 h, .func (.func 192) #[] #[.pointer (some ⟨a, 0, none⟩), .pointer (some ⟨b, 0, none⟩)]] w
  fun e w' => e = .returned (.bool (zD n S h)) /\ Below w.heap.size w w' := by
 have hn := hc.n1
 cases hq : cC n h
 . rw [show zD n S h = false by unfold zD; rw [hq]; rfl]
   exact lG
 . have hh : 0 <= h /\ h < (n : Int) := by unfold cC at hq; simpa using hq
   obtain ⟨k, rfl⟩ := Int.eq_ofNat_of_zero_le hh.1
   have hk : k < 8 := by omega
   rw [show zD n S (k : Int) = (S k == 1) by unfold zD; rw [hq]; rfl]
   have HB := Hd hq
   clear hq hh
   go_enter func149, ntmps149
   go_wp2_with (go_at_call 96; refine (iT _ _ _ _ _ _ _ _ hc).mono ?_; rw [HB.out]; rintro e w' ⟨rfl, rfl⟩)
   refine (aBB t n k D S p m a b _ hc hk ha hb).mono ?_
   rintro e w' ⟨rfl, j, rfl⟩
   go_wp2_with fail
   go_ret
   exact ⟨rfl, nS (aT w) _⟩
theorem aCa (t h : Int) (n : Nat) (D S : Nat -> Int) (p m : Nat) (w : World) (hc : bD w p m t n D S) :
 Calls prog 117 #[.pointer (some ⟨p, 0, none⟩), .int .i64 h] w fun e w' => e = .returned (.bool (zD n S h)) /\ Below w.heap.size w w' := by
 have hmf : ∀ (fn : Fn) (first cap : Array Value) (w : World), (Instr.makeFunc fn first cap).run prog w = .ok (.func fn first cap) w := fun _ _ _ _ => rfl
 have hc2 := hc.below (aO (aO (aT w) (.cells #[.pointer (some ⟨p, 0, none⟩)] 110)) (.cells #[.int .i64 h] 3))
 have h0 := aA (hJ w (.cells #[.pointer (some ⟨p, 0, none⟩)] 110) (.cells #[.int .i64 h] 3)) 0
 have h1 := aA (fU w (.cells #[.pointer (some ⟨p, 0, none⟩)] 110) (.cells #[.int .i64 h] 3)) 0
 simp only [y0q, List.getElem?_cons_zero] at h0 h1
 have H2 := Hd hc2
 clear hc2 hc
 go_enter func117, ntmps117
 go_wp2_with fail
 refine (vA t h n D S p m _ _ _ H2.out h0 h1).mono ?_
 rintro e w' ⟨rfl, hb⟩
 go_wp2_with fail
 go_ret
 exact ⟨rfl, tr (aO (aO (aT w) _) _) hb⟩
def stB (a wr cl v : Int) (i : Nat) : Bool := if (bX cl i && bX v i) = true then false else if bX wr i = true then bX v i else bX a i
def stV (a wr cl v : Int) : Int := ((bU (stB a wr cl v) 32 : Nat) : Int)
def ob (f : Nat -> Bool) (k : Nat) : Int := ((bU f k : Nat) : Int)
def un (k : Nat) : Int := 2 ^ k % 4294967296
theorem fJ (f : Nat -> Bool) (k : Nat) (h : k <= 32) : 0 <= ob f k /\ ob f k < 4294967296 := by
 have a := fK f k
 have b : 2 ^ k <= 2 ^ 32 := Nat.pow_le_pow_right (by decide) h
 unfold ob; omega
theorem mL (k : Nat) : 0 <= un k /\ un k < 4294967296 := by unfold un; omega
theorem yT (k : Nat) (h : k < 32) : un k = ((2 ^ k : Nat) : Int) := by
 have b : 2 ^ k <= 2 ^ 31 := Nat.pow_le_pow_right (by decide) (by omega)
 unfold un; rw [<- dH]
 generalize 2 ^ k = x at b ⊢
 omega
theorem aBl (f : Nat -> Bool) (k : Nat) (h : k < 32) (hf : f k = true) : ob f (k + 1) = ob f k + un k := by
 rw [yT k h]; unfold ob; rw [bU, if_pos hf]; push_cast; rfl
theorem aAn (f : Nat -> Bool) (k : Nat) (hf : f k = false) : ob f (k + 1) = ob f k := by
 unfold ob; rw [bU, if_neg (by rw [hf]; decide)]; simp
theorem bE (n : Int) (i : Nat) (h : 0 <= n) : bX n i = n.toNat.testBit i := by
 obtain ⟨m, rfl⟩ := Int.eq_ofNat_of_zero_le h
 rw [Int.toNat_natCast, Nat.testBit_eq_decide_div_mod_eq]
 unfold bX
 have : ((m : Int) / 2 ^ i % 2) = ((m / 2 ^ i % 2 : Nat) : Int) := by push_cast; rfl
 rw [this]
 exact decide_eq_decide.2 (by omega)
theorem fW (f : Nat -> Bool) (i : Nat) : bX ((bU f 32 : Nat) : Int) i = (decide (i < 32) && f i) := by
 rw [bE _ _ (by omega), Int.toNat_natCast, cO]
theorem oD (n : Int) (i : Nat) (h0 : 0 <= n) (h1 : n < 4294967296) (hi : 32 <= i) : bX n i = false := by
 rw [bE n i h0]
 apply Nat.testBit_lt_two_pow
 have : 2 ^ 32 <= 2 ^ i := Nat.pow_le_pow_right (by decide) hi
 omega
theorem fM {a b : Int} (a0 : 0 <= a) (a1 : a < 4294967296) (b0 : 0 <= b) (b1 : b < 4294967296) (h : ∀ i, i < 32 -> bX a i = bX b i) : a = b := by
 have : a.toNat = b.toNat := by
  apply Nat.eq_of_testBit_eq
  intro i
  rw [<- bE a i a0, <- bE b i b0]
  by_cases hi : i < 32
  . exact h i hi
  . rw [oD a i a0 a1 (by omega), oD b i b0 b1 (by omega)]
 omega
theorem dX (a b : Int) (a0 : 0 <= a) (a1 : a < 4294967296) (b0 : 0 <= b) (b1 : b < 4294967296) : 0 <= bits BinOp.andNot IntKind.u32 a b /\ bits BinOp.andNot IntKind.u32 a b < 4294967296 := by
 rw [u32_andNot _ _ a0 a1 b0 b1]
 have : a.toNat &&& (4294967295 - b.toNat) <= a.toNat := Nat.and_le_left
 omega
theorem xM (a b : Int) (a0 : 0 <= a) (a1 : a < 4294967296) (b0 : 0 <= b) (b1 : b < 4294967296) : bits BinOp.or IntKind.u32 a b = ((a.toNat ||| b.toNat : Nat) : Int) := by
 obtain ⟨m, rfl⟩ := Int.eq_ofNat_of_zero_le a0
 obtain ⟨n, rfl⟩ := Int.eq_ofNat_of_zero_le b0
 rw [u32_or_nat _ _ (by omega) (by omega)]; simp
theorem tV (a b : Int) (a0 : 0 <= a) (a1 : a < 4294967296) (b0 : 0 <= b) (b1 : b < 4294967296) : 0 <= bits BinOp.or IntKind.u32 a b /\ bits BinOp.or IntKind.u32 a b < 4294967296 := by
 rw [xM _ _ a0 a1 b0 b1]
 have : a.toNat ||| b.toNat < 2 ^ 32 := Nat.or_lt_two_pow (by omega) (by omega)
 omega
theorem jC (a b : Int) (i : Nat) (hi : i < 32) (a0 : 0 <= a) (a1 : a < 4294967296) (b0 : 0 <= b) (b1 : b < 4294967296) : bX (bits BinOp.andNot IntKind.u32 a b) i = (bX a i && !bX b i) := by
 rw [u32_andNot _ _ a0 a1 b0 b1, bE _ _ (by omega), Int.toNat_natCast, Nat.testBit_and, bE _ _ a0, bE _ _ b0,
  show 4294967295 - b.toNat = 2 ^ 32 - (b.toNat + 1) from by omega, Nat.testBit_two_pow_sub_succ (by omega)]
 simp [hi]
theorem jD (i : Nat) : bX 0 i = false := by unfold bX; simp
theorem kP (n : Int) (i : Nat) (h : 0 <= n) : ((n.toNat / 2 ^ i % 2 : Nat) : Int) = n / 2 ^ i % 2 := by
 have h1 : n = ((n.toNat : Nat) : Int) := by omega
 have h2 : (2 : Int) ^ i = ((2 ^ i : Nat) : Int) := by push_cast; rfl
 conv => rhs; rw [h1, h2]
 rw [<- Int.natCast_ediv]; omega
theorem sX (n : Int) (k : Nat) (h0 : 0 <= n) (hk : k < 32) : (field n (k : Int) 1 == 1) = bX n k := by
 unfold field bX
 rw [if_pos (by unfold pW; simp; omega), Int.toNat_natCast]
 have h : ((n.toNat / 2 ^ k % 2 ^ min (1 : Int).toNat 32 : Nat) : Int) = n / 2 ^ k % 2 := by
  have : min (1 : Int).toNat 32 = 1 := by decide
  rw [this, Nat.pow_one]; exact kP n k h0
 rw [h]
 by_cases e : n / 2 ^ k % 2 = 1
 . rw [e]; rfl
 . rw [beq_eq_false_iff_ne.2 e, decide_eq_false e]
def tk (b : Bool) : Int := cond b 1 0
theorem eQ (n : Int) (k : Nat) (b : Bool) (hk : k < 32) (h0 : 0 <= n) (i : Nat) (hi : i < 32) : bX (put n (k : Int) 1 (tk b)) i = if i = k then b else bX n i := by
 unfold put
 rw [if_pos (by unfold pW; simp; omega), fW, decide_eq_true hi, Bool.true_and]
 unfold dP
 rw [Int.toNat_natCast, show (1 : Int).toNat = 1 from rfl]
 by_cases e : i = k
 . subst e
   rw [if_pos (by omega), if_pos rfl, Nat.sub_self]
   cases b <;> rfl
 . rw [if_neg (by omega), if_neg e, bE n i h0]
theorem gM (n low width : Int) (h0 : 0 <= n) (h1 : n < 4294967296) : 0 <= field n low width /\ field n low width < 4294967296 := by
 unfold field; split
 . have a : n.toNat / 2 ^ low.toNat % 2 ^ min width.toNat 32 <= n.toNat := Nat.le_trans (Nat.mod_le _ _) (Nat.div_le_self _ _)
   omega
 . omega
theorem cY (n low width v : Int) (h0 : 0 <= n) (h1 : n < 4294967296) : 0 <= put n low width v /\ put n low width v < 4294967296 := by
 unfold put; split
 . have := fK (dP n low width v) 32
   have e32 : (2 : Nat) ^ 32 = 4294967296 := by decide
   omega
 . omega
end Go.Proofs.YtaohacadochldaaGreat.B
