/- A part of the proof of a law of layer 12: ac. -/
import Derived.Test.YtaohacadochldaaGreatZCab
import Derived.Deep.Cut
set_option linter.unusedVariables false
set_option linter.unusedSimpArgs false
set_option maxHeartbeats 12800000
set_option maxRecDepth 100000
namespace Go.Proofs.YtaohacadochldaaGreat.B
open Go.Proofs.Tryz
open List renaming getElem?_toArray -> y0q
open Go.ChangeShapes Go.WideShapes Go.RowKit Go.Sort Go.MapKept
def nX (t : Int) (n : Nat) (D S : Nat -> Int) (m : Nat) : List Value := [.int .u64 t, .int .i64 n] ++ (il .u64 D 8 ++ (il .u32 S 8 ++ [.map (some m)]))
theorem sW (t : Int) (n : Nat) (D S : Nat -> Int) (m : Nat) : (nX t n D S m).length = 19 := by simp [nX, cJ]
theorem aNt (t : Int) (n : Nat) (D S : Nat -> Int) (m i : Nat) (h : i < 8) : (nX t n D S m)[2 + i]? = some (.int .u64 (D i)) := by
 unfold nX; rw [eI _ _ 2 i (by rfl), mP _ _ _ (by rw [cJ]; exact h), pD _ _ _ _ h]
theorem aNu (t : Int) (n : Nat) (D S : Nat -> Int) (m i : Nat) (h : i < 8) : (nX t n D S m)[10 + i]? = some (.int .u32 (S i)) := by
 unfold nX; rw [show 10 + i = 2 + (8 + i) by omega, eI _ _ 2 _ (by rfl), eI _ _ 8 i (by rw [cJ]), mP _ _ _ (by rw [cJ]; exact h), pD _ _ _ _ h]
theorem aJ8 (t : Int) (n : Nat) (D S : Nat -> Int) (m : Nat) : (nX t n D S m)[18]? = some (.map (some m)) := by
 unfold nX; rw [show 18 = 2 + (8 + (8 + 0)) by omega, eI _ _ 2 _ (by rfl), eI _ _ 8 _ (by rw [cJ]), eI _ _ 8 _ (by rw [cJ])]; rfl
theorem aFi (t : Int) (n : Nat) (D S : Nat -> Int) (m : Nat) (v : Int) : (nX t n D S m).set 0 (.int .u64 v) = nX v n D S m := rfl
theorem aFf (t : Int) (n : Nat) (D S : Nat -> Int) (m i : Nat) (v : Int) (h : i < 8) : (nX t n D S m).set (2 + i) (.int .u64 v) = nX t n (upd D i v) S m := by
 unfold nX; rw [gI _ _ 2 i _ (by rfl), iA _ _ _ _ (by rw [cJ]; exact h), uC]
theorem aFh (t : Int) (n : Nat) (D S : Nat -> Int) (m i : Nat) (v : Int) (h : i < 8) : (nX t n D S m).set (10 + i) (.int .u32 v) = nX t n D (upd S i v) m := by
 unfold nX; rw [show 10 + i = 2 + (8 + i) by omega, gI _ _ 2 _ _ (by rfl), gI _ _ 8 i _ (by rw [cJ]), iA _ _ _ _ (by rw [cJ]; exact h), uC]
theorem aFg (t : Int) (n : Nat) (D S : Nat -> Int) (m k : Nat) : (nX t n D S m).set 18 (.map (some k)) = nX t n D S k := by
 unfold nX; rw [show 18 = 2 + (8 + (8 + 0)) by omega, gI _ _ 2 _ _ (by rfl), gI _ _ 8 _ _ (by rw [cJ]), gI _ _ 8 _ _ (by rw [cJ])]; rfl
theorem aIP (t : Int) (n : Nat) (D S : Nat -> Int) (m : Nat) : ∀ v ∈ nX t n D S m, v.oneCell' = true := by
 intro v h
 unfold nX at h
 simp only [List.mem_append, List.mem_cons, List.not_mem_nil, or_false] at h
 rcases h with (rfl | rfl) | h | h | rfl
 . rfl
 . rfl
 . exact uB _ _ _ v h
 . exact uB _ _ _ v h
 . rfl
structure dY (w : World) (p m : Nat) (t : Int) (n : Nat) (D S : Nat -> Int) : Prop where
 cell : w.heap[p]? = some (.cells (nX t n D S m).toArray 166 (0, 0))
 map : eA w ek lT m (pM n)
 t0 : 0 <= t
 t1 : t < 18446744073709551616
 n0 : 1 <= n
 n1 : n <= 8
 d : okD D
 s : okS S
section
variable {w w' : World} {p m n : Nat} {t : Int} {D S : Nat -> Int}
theorem dY.ltp (h : dY w p m t n D S) : p < w.heap.size := lt_of_block h.cell
theorem dY.ltm (h : dY w p m t n D S) : m < w.heap.size := h.map.lt
theorem dY.ne (h : dY w p m t n D S) : p ≠ m := fun e => by obtain ⟨_, _, hb, _⟩ := h.map; rw [<- e, h.cell] at hb; cases hb
theorem dY.kept (h : dY w p m t n D S) (h1 : w'.heap[p]? = w.heap[p]?) (h2 : w'.heap[m]? = w.heap[m]?) : dY w' p m t n D S :=
 ⟨h1.trans h.cell, h.map.kept h2, h.t0, h.t1, h.n0, h.n1, h.d, h.s⟩
theorem dY.off {X : Nat -> Prop} (h : dY w p m t n D S) (ho : aF X w w') (h1 : ¬ X p) (h2 : ¬ X m) : dY w' p m t n D S :=
 h.kept (ho.block p h.ltp h1) (ho.block m h.ltm h2)
theorem dY.below (h : dY w p m t n D S) (ho : Below w.heap.size w w') : dY w' p m t n D S := h.kept (ho.block p h.ltp) (ho.block m h.ltm)
theorem dY.c0 (h : dY w p m t n D S) : w.cell? ⟨p, 0, none⟩ = some (.int .u64 t) := by have := aA h.cell 0; simpa [nX] using this
theorem dY.c1 (h : dY w p m t n D S) : w.cell? ⟨p, 1, none⟩ = some (.int .i64 n) := by have := aA h.cell 1; simpa [nX] using this
theorem dY.cD (h : dY w p m t n D S) (i : Nat) (hi : i < 8) : w.cell? ⟨p, 2 + i, none⟩ = some (.int .u64 (D i)) := by
 have := aA h.cell (2 + i); rw [this, y0q]; exact aNt _ _ _ _ _ _ hi
theorem dY.cS (h : dY w p m t n D S) (i : Nat) (hi : i < 8) : w.cell? ⟨p, 10 + i, none⟩ = some (.int .u32 (S i)) := by
 have := aA h.cell (10 + i); rw [this, y0q]; exact aNu _ _ _ _ _ _ hi
theorem dY.cM (h : dY w p m t n D S) : w.cell? ⟨p, 18, none⟩ = some (.map (some m)) := by
 have := aA h.cell 18; rw [this, y0q]; exact aJ8 _ _ _ _ _
theorem dY.free (h : dY w p m t n D S) (j : Nat) : w.frozen? ⟨p, j, none⟩ = false := aK h.cell j
theorem dY.set (h : dY w p m t n D S) (j : Nat) (v : Value) {t' : Int} {D' S' : Nat -> Int} (he : (nX t n D S m).set j v = nX t' n D' S' m) (ht : 0 <= t' /\ t' < 18446744073709551616) (hd : okD D') (hs : okS S') :
 dY (w.setCell ⟨p, j, none⟩ v) p m t' n D' S' :=
 ⟨by rw [aR h.cell, <- he]; simp, h.map.kept (Below.heap_setCell w ⟨p, j, none⟩ v m (fun e => h.ne e.symm)), ht.1, ht.2, h.n0, h.n1, hd, hs⟩
theorem dY.setT (h : dY w p m t n D S) {v : Int} (v0 : 0 <= v) (v1 : v < 18446744073709551616) : dY (w.setCell ⟨p, 0, none⟩ (.int .u64 v)) p m v n D S :=
 h.set 0 _ (aFi _ _ _ _ _ _) ⟨v0, v1⟩ h.d h.s
theorem dY.setD (h : dY w p m t n D S) (i : Nat) {v : Int} (hi : i < 8) (v0 : 0 <= v) (v1 : v < 18446744073709551616) : dY (w.setCell ⟨p, 2 + i, none⟩ (.int .u64 v)) p m t n (upd D i v) S :=
 h.set _ _ (aFf _ _ _ _ _ _ _ hi) ⟨h.t0, h.t1⟩ (h.d.upd i v0 v1) h.s
theorem dY.setS (h : dY w p m t n D S) (i : Nat) {v : Int} (hi : i < 8) (v0 : 0 <= v) (v1 : v < 4294967296) : dY (w.setCell ⟨p, 10 + i, none⟩ (.int .u32 v)) p m t n D (upd S i v) :=
 h.set _ _ (aFh _ _ _ _ _ _ _ hi) ⟨h.t0, h.t1⟩ h.d (h.s.upd i v0 v1)
end
theorem iB {B : Nat} {w w' : World} (h : Below B w w') (b : Nat) (o : Obj) (hb : B <= b) : Below B w (Go.ChangeMaps.setBlock w' b o) :=
 ⟨h.os, h.tape, h.output, by simpa [Go.ChangeMaps.setBlock] using h.size, fun k hk => by
  have : b ≠ k := by omega
  simp only [Go.ChangeMaps.setBlock, Array.getElem?_setIfInBounds, if_neg this]; exact h.block k hk⟩
theorem aPr (w : World) : ∃ es c w', (Instr.mapUpdate 164 (.map (some w.heap.size)) (ek 49144) (eR 3 0)).run prog (w.alloc (.map #[] 0)).drew = .ok () w' /\
 (Instr.mapUpdate 164 (.map (some w.heap.size)) (ek 49148) (eR 4 0)).run prog w' = .ok () es /\ eA es ek lT w.heap.size (pM 0) /\ Below w.heap.size w es /\ c = () := by
 have M0 : eA (w.alloc (.map #[] 0)).drew ek lT w.heap.size [] := (rU w ek lT).kept rfl
 obtain ⟨e1, c1, h1, m1⟩ := M0.update fY underlying164 49144 (eR 3 0) ⟨by omega, by omega⟩
 obtain ⟨e2, c2, h2, m2⟩ := m1.update fY underlying164 49148 (eR 4 0) ⟨by omega, by omega⟩
 refine ⟨_, (), _, h1, h2, m2.perm ?_, ?_, rfl⟩
 . simp [mZ, pM]
 . exact iB (iB (jQ (aE (aH w) _)) _ _ (Nat.le_refl _)) _ _ (Nat.le_refl _)
theorem aOQ (w : World) : ∃ es c w', (Instr.mapUpdate 164 (.map (some w.heap.size)) (ek 49148) (eR 4 0)).run prog (w.alloc (.map #[] 0)).drew = .ok () w' /\
 (Instr.mapUpdate 164 (.map (some w.heap.size)) (ek 49144) (eR 3 0)).run prog w' = .ok () es /\ eA es ek lT w.heap.size (pM 0) /\ Below w.heap.size w es /\ c = () := by
 have M0 : eA (w.alloc (.map #[] 0)).drew ek lT w.heap.size [] := (rU w ek lT).kept rfl
 obtain ⟨e1, c1, h1, m1⟩ := M0.update fY underlying164 49148 (eR 4 0) ⟨by omega, by omega⟩
 obtain ⟨e2, c2, h2, m2⟩ := m1.update fY underlying164 49144 (eR 3 0) ⟨by omega, by omega⟩
 refine ⟨_, (), _, h1, h2, m2.perm ?_, ?_, rfl⟩
 . simp only [mZ, pM]; exact List.Perm.swap _ _ _
 . exact iB (iB (jQ (aE (aH w) _)) _ _ (Nat.le_refl _)) _ _ (Nat.le_refl _)
theorem aGO (k : Nat) (h : k <= 7) : mZ (4 * (k : Int)) (eR 0 k) (pM k) = (4 * (k : Int), eR 0 k) :: pM k :=
 uV fun p hp => by rcases aAB k p hp with g | g | ⟨j, hj, g | g | g⟩ <;> omega
theorem wO {P : Prop} (h : P := by
 rcases List.mem_cons.1 hp with rfl | hp
 . show (4 * (k : Int)) ≠ _; omega
 . rcases aAB k p hp with g | g | ⟨j, hj, g | g | g⟩ <;> omega
 ) : P := h
theorem aGP (k : Nat) (h : k <= 7) : mZ (16384 + 8 * (k : Int)) (eR 1 k) ((4 * (k : Int), eR 0 k) :: pM k) = (16384 + 8 * (k : Int), eR 1 k) :: (4 * (k : Int), eR 0 k) :: pM k :=
 uV fun p hp => by
  exact wO
theorem aGQ (k : Nat) (h : k <= 7) : mZ (16384 + 8 * (k : Int) + 4) (eR 2 k) ((16384 + 8 * (k : Int), eR 1 k) :: (4 * (k : Int), eR 0 k) :: pM k) = pM (k + 1) :=
 uV fun p hp => by
  rcases List.mem_cons.1 hp with rfl | hp
  . show (16384 + 8 * (k : Int)) ≠ _; omega
  . exact wO
def aFB (w w' : World) (n : Nat) : Prop := eA w' ek lT w.heap.size (pM n) /\ Below w.heap.size w w'
theorem aIO (n : Nat) (w : World) (hn : n <= 8) :
 Calls prog 175 #[.int .i64 n] w fun e w' => e = .returned (.map (some w.heap.size)) /\ aFB w w' n := by
 have hmm := @run_makeMap prog
 obtain ⟨X, _, V, hx1, hx2, hX, hbX, _⟩ := aPr w
 obtain ⟨Y, _, Z, hy1, hy2, hY, hbY, _⟩ := aOQ w
 have HX := Hd hX
 have HY := Hd hY
 have HXb := Hd hbX
 have HYb := Hd hbY
 clear hX hY hbX hbY
 unfold ek eR at hx1 hx2 hy1 hy2
 go_enter func175, ntmps175
 go_upto_region 1 with (fail)
 refine sG fun K1 hK1 => ?_
 go_cut [3] from 12 (fun v w' => v = .map (some w.heap.size) /\ aFB w w' 0)
 case first =>
  go_region
  all_goals
   go_wp2_with fail
   go_meet
   case rel => exact ⟨rfl, by first | exact ⟨HX.out, HXb.out⟩ | exact ⟨HY.out, HYb.out⟩⟩
 case rest =>
  obtain ⟨rfl, hcut⟩ := hcut
  refine hK1 _ _ ?_
  clear hK1 hx1 hx2 hy1 hy2 HX HY HXb HYb
  go_wp2_with fail
  go_loopw [14] (fun i wr => ∃ k : Nat, k <= n /\ i = .int .i64 k /\ aFB w wr k) (fun i _ => n - (intOf i).toNat)
  case atStart => exact ⟨0, by omega, rfl, hcut⟩
  case round =>
   clear hcut
   obtain ⟨k, hk, rfl, hM, hb⟩ := hrel
   by_cases hlt : k < n
   . have e1 : (8 * (k : Int)) % 4294967296 = 8 * k := by omega
     have g1 := aGO k (by omega)
     have g2 := aGP k (by omega)
     have g3 := aGQ k (by omega)
     have G1 := Hd g1
     have G2 := Hd g2
     have G3 := Hd g3
     clear g1 g2 g3
     go_wp2_with (first
      | (at_mapUpdate; refine pL fY rfl _ _ _ _ rfl underlying164 rfl hM (4 * (k : Int)) (eR 0 k) rfl rfl ⟨by omega, by omega⟩ ?_; intro w3 hM3 ho3; rw [G1.out] at hM3)
      | (at_mapUpdate; refine pL fY rfl _ _ _ _ rfl underlying164 rfl hM3 (16384 + 8 * (k : Int)) (eR 1 k) rfl rfl ⟨by omega, by omega⟩ ?_; intro w4 hM4 ho4; rw [G2.out] at hM4)
      | (at_mapUpdate; refine pL fY rfl _ _ _ _ rfl underlying164 rfl hM4 (16384 + 8 * (k : Int) + 4) (eR 2 k) rfl rfl ⟨by omega, by omega⟩ ?_; intro w5 hM5 ho5; rw [G3.out] at hM5))
     go_roundw
     case rel => exact ⟨k + 1, by omega, by go_num, hM5, aF.toBelow (aF.toBelow (aF.toBelow hb ho3 (fun _ h => by omega) (Nat.le_refl _)) ho4 (fun _ h => by omega) (Nat.le_refl _)) ho5 (fun _ h => by omega) (Nat.le_refl _)⟩
     case measure => simp [intOf]; omega
   . obtain rfl : k = n := by omega
     go_wp2_with fail
     go_ret
     exact ⟨rfl, hM, hb⟩
def rsD (D : Nat -> Int) (k : Nat) : Nat -> Int := fun i => if i < k then 18446744073709551615 else D i
def rsS (S : Nat -> Int) (k : Nat) : Nat -> Int := fun i => if i < k then 0 else S i
theorem aHT (D : Nat -> Int) : rsD D 0 = D := by funext i; simp [rsD]
theorem aHV (S : Nat -> Int) : rsS S 0 = S := by funext i; simp [rsS]
theorem rI {P : Prop} (h : P := by
 by_cases e : i = k
 . subst e; simp
 . rw [if_neg e]; simp only [show (i < k + 1) = (i < k) from propext (by omega)]
 ) : P := h
theorem aHS (D : Nat -> Int) (k : Nat) : upd (rsD D k) k 18446744073709551615 = rsD D (k + 1) := by
 funext i; unfold upd rsD
 exact rI
theorem aHU (S : Nat -> Int) (k : Nat) : upd (rsS S k) k 0 = rsS S (k + 1) := by
 funext i; unfold upd rsS
 exact rI
theorem dY.swapDS {w : World} {p m n i : Nat} {t : Int} {D S : Nat -> Int} (h : dY w p m t n D S) (hi : i < 8) :
 dY ((w.setCell ⟨p, 2 + i, none⟩ (.int .u64 18446744073709551615)).setCell ⟨p, 10 + i, none⟩ (.int .u32 0)) p m t n (upd D i 18446744073709551615) (upd S i 0) :=
 (h.setD i hi (by omega) (by omega)).setS i hi (by omega) (by omega)
theorem dY.swapSD {w : World} {p m n i : Nat} {t : Int} {D S : Nat -> Int} (h : dY w p m t n D S) (hi : i < 8) :
 dY ((w.setCell ⟨p, 10 + i, none⟩ (.int .u32 0)).setCell ⟨p, 2 + i, none⟩ (.int .u64 18446744073709551615)) p m t n (upd D i 18446744073709551615) (upd S i 0) :=
 (h.setS i hi (by omega) (by omega)).setD i hi (by omega) (by omega)
theorem dY.drew {w : World} {p m n : Nat} {t : Int} {D S : Nat -> Int} (h : dY w p m t n D S) : dY w.drew p m t n D S := h.kept rfl rfl
theorem aLG (t : Int) (n : Nat) (D S : Nat -> Int) (p m : Nat) (w : World) (h : dY w p m t n D S) :
 Calls prog 176 #[.pointer (some ⟨p, 0, none⟩)] w
  fun e w' => e = .returned (.tuple #[]) /\ dY w' p m t n (rsD D 8) (rsS S 8) /\ aF (· = p) w w' := by
 have H := Hd h
 clear h
 go_enter func176, ntmps176
 go_wp2_with fail
 go_loopw [5] (fun i wr => ∃ k : Nat, k <= 8 /\ i = .int .i64 k /\ dY wr p m t n (rsD D k) (rsS S k) /\ aF (· = p) w wr) (fun i _ => 8 - (intOf i).toNat)
 case atStart => exact ⟨0, by omega, rfl, by rw [aHT, aHV]; exact H.out, aF.refl _ _⟩
 case round =>
  obtain ⟨k, hk, rfl, hC, ho⟩ := hrel
  by_cases hlt : k < 8
  . have c1 := hC.cD k hlt
    have c2 := hC.cS k hlt
    have f1 := hC.free (2 + k)
    have f2 := hC.free (10 + k)
    have H1 := Hd (hC.drew.swapDS hlt)
    have H2 := Hd (hC.drew.swapSD hlt)
    have O1 := Hd ((ho.trans (uT wr)).trans ((aG wr.drew p (2 + k) (.int .u64 18446744073709551615)).trans (aG _ p (10 + k) (.int .u32 0))))
    have O2 := Hd ((ho.trans (uT wr)).trans ((aG wr.drew p (10 + k) (.int .u32 0)).trans (aG _ p (2 + k) (.int .u64 18446744073709551615))))
    have E1 := Hd (aHS D k)
    have E2 := Hd (aHU S k)
    clear hC ho
    go_wp2_with fail
    go_region
    all_goals
     go_wp2_with fail
     go_roundw
     case rel => exact ⟨k + 1, by omega, by go_num, by rw [<- E1.out, <- E2.out]; first | exact H1.out | exact H2.out, by first | exact O1.out | exact O2.out⟩
     case measure => simp [intOf]; omega
  . obtain rfl : k = 8 := by omega
    go_wp2_with fail
    go_end0
    exact ⟨rfl, hC, ho⟩
def nvD : Nat -> Int := fun _ => 18446744073709551615
def jB : Nat -> Int := fun _ => 0
theorem dY.congr {w : World} {p m n : Nat} {t : Int} {D S D' S' : Nat -> Int} (h : dY w p m t n D S) (hd : ∀ i, i < 8 -> D i = D' i) (hs : ∀ i, i < 8 -> S i = S' i) (hD : okD D') (hS : okS S') : dY w p m t n D' S' :=
 ⟨by rw [h.cell]; unfold nX; rw [mW _ _ _ _ hd, mW _ _ _ _ hs], h.map, h.t0, h.t1, h.n0, h.n1, hD, hS⟩
theorem aCq : okD nvD := fun _ => by unfold nvD; omega
theorem aAL : okS jB := fun _ => by unfold jB; omega
theorem aDQ (t : Int) (n : Nat) (D S : Nat -> Int) (p m : Nat) (w : World) (h : dY w p m t n D S) :
 Calls prog 176 #[.pointer (some ⟨p, 0, none⟩)] w
  fun e w' => e = .returned (.tuple #[]) /\ dY w' p m t n nvD jB /\ aF (· = p) w w' :=
 (aLG t n D S p m w h).mono fun e w' g => ⟨g.1, g.2.1.congr (fun i hi => by unfold rsD nvD; rw [if_pos hi]) (fun i hi => by unfold rsS jB; rw [if_pos hi]) aCq aAL, g.2.2⟩
def aPT (w : World) (n : Nat) (e : Ending) (w' : World) : Prop :=
 ∃ p, w.heap.size <= p /\ e = .returned (.tuple #[.pointer (some ⟨p, 0, none⟩), .int .i64 0]) /\ dY w' p w.heap.size 0 n nvD jB /\ Below w.heap.size w w'
theorem aPa (n : Nat) (w : World) (h1 : 1 <= n) (h8 : n <= 8) : Calls prog 97 #[.int .i64 n] w (aPT w n) := by
 go_enter func97, ntmps97
 go_wp2_with fail
 refine (aIO n w h8).mono ?_
 rintro e w1 ⟨rfl, hM, hb⟩
 go_wp2_with fail
 have hC : dY (w1.alloc (.cells (nX 0 n jB jB w.heap.size).toArray 166)) w1.heap.size w.heap.size 0 n jB jB :=
  ⟨aD _ _, hM.kept (aX _ _ hM.lt), by omega, by omega, h1, h8, fun _ => by unfold jB; omega, aAL⟩
 have hb1 := aE hb (.cells (nX 0 n jB jB w.heap.size).toArray 166)
 have hp : w.heap.size <= w1.heap.size := hb.size
 refine (aDQ 0 n jB jB _ _ _ hC).mono ?_
 rintro e w2 ⟨rfl, hC2, ho2⟩
 go_wp2_with fail
 go_ret2
 exact ⟨_, hp, rfl, hC2, aF.toBelow hb1 ho2 (fun _ h => by omega) (Nat.le_refl _)⟩
theorem aU {P : Prop} (h : P := by
 go_wp2_with fail
 go_ret
 exact ⟨rfl, rfl⟩
 ) : P := h
theorem aCO (t : Int) (n : Nat) (D S : Nat -> Int) (p m : Nat) (w : World) (h : dY w p m t n D S) :
 Calls prog 116 #[.pointer (some ⟨p, 0, none⟩)] w fun e w' => e = .returned (.int .i64 n) /\ w = w' := by
 have c1 := h.c1
 clear h
 go_enter func116, ntmps116
 exact aU
theorem aJ7 (t : Int) (n : Nat) (D S : Nat -> Int) (p m : Nat) (w : World) (h : dY w p m t n D S) :
 Calls prog 54 #[.pointer (some ⟨p, 0, none⟩)] w fun e w' => e = .returned (.int .u64 t) /\ w = w' := by
 have c1 := h.c0
 clear h
 go_enter func54, ntmps54
 exact aU
def dT (n : Nat) (h : Int) : Bool := decide (0 <= h /\ h < (n : Int))
theorem sV (h t : Int) (n : Nat) (D S : Nat -> Int) (p m : Nat) (w : World) (hc : dY w p m t n D S) :
 Calls prog 96 #[.pointer (some ⟨p, 0, none⟩), .int .i64 h] w fun e w' => e = .returned (.bool (dT n h)) /\ w = w' := by
 by_cases h0 : 0 <= h
 . by_cases h1 : h < (n : Int)
   . rw [show dT n h = true from decide_eq_true ⟨h0, h1⟩]
     go_enter func96, ntmps96
     go_wp2_with (go_at_call 116; refine (aCO _ _ _ _ _ _ _ hc).mono ?_; rintro e w' ⟨rfl, rfl⟩)
     go_ret
     exact ⟨rfl, rfl⟩
   . rw [show dT n h = false from decide_eq_false (fun e => h1 e.2)]
     go_enter func96, ntmps96
     go_wp2_with (go_at_call 116; refine (aCO _ _ _ _ _ _ _ hc).mono ?_; rintro e w' ⟨rfl, rfl⟩)
     go_ret
     exact ⟨cU (decide_eq_false (by omega)), rfl⟩
 . rw [show dT n h = false from decide_eq_false (fun e => h0 e.1)]
   go_enter func96, ntmps96
   exact aU
def oL (n : Nat) (D : Nat -> Int) (h : Int) : Int := if dT n h = true then D h.toNat else 18446744073709551615
theorem wH {P : Prop} (h : P := by
 go_enter func53, ntmps53
 go_wp2_with (go_at_call 96; refine (sV _ _ _ _ _ _ _ _ hc).mono ?_; rw [HB.out]; rintro e w' ⟨rfl, rfl⟩)
 go_ret
 exact ⟨rfl, rfl⟩
 ) : P := h
theorem aFb (h t : Int) (n : Nat) (D S : Nat -> Int) (p m : Nat) (w : World) (hc : dY w p m t n D S) :
 Calls prog 53 #[.pointer (some ⟨p, 0, none⟩), .int .i64 h] w fun e w' => e = .returned (.int .u64 (oL n D h)) /\ w = w' := by
 have hn := hc.n1
 cases hb : dT n h
 . rw [show oL n D h = 18446744073709551615 by unfold oL; rw [hb]; rfl]
   have HB := Hd hb
   clear hb
   exact wH
 . have hh : 0 <= h /\ h < (n : Int) := by unfold dT at hb; simpa using hb
   obtain ⟨k, rfl⟩ := Int.eq_ofNat_of_zero_le hh.1
   rw [show oL n D (k : Int) = D k by unfold oL; rw [if_pos hb]; rfl]
   have hk : k < 8 := by omega
   have c := hc.cD k hk
   have HB := Hd hb
   clear hb hh
   exact wH
theorem aNs (v t : Int) (n : Nat) (D S : Nat -> Int) (p m : Nat) (w : World) (hc : dY w p m t n D S) (v0 : 0 <= v) (v1 : v < 18446744073709551616) :
 Calls prog 270 #[.pointer (some ⟨p, 0, none⟩), .int .u64 v] w fun e w' => e = .returned (.tuple #[]) /\ dY w' p m (eF t v) n D S /\ aF (· = p) w w' := by
 have c := hc.c0
 have f := hc.free 0
 have t0 := hc.t0
 have t1 := hc.t1
 have b := kM t0 t1 v0 v1
 go_enter func270, ntmps270
 go_wp2_with (go_at_call 274; refine (Add _ _ _ t0 t1 v0 v1).mono ?_; rintro e w' ⟨rfl, rfl⟩)
 go_end0
 exact ⟨rfl, hc.setT b.1 b.2, aG _ _ _ _⟩
def oR (t : Int) (n : Nat) (D : Nat -> Int) (h : Int) : Bool := dT n h && decide (D h.toNat <= t)
def cSf (n : Nat) (S : Nat -> Int) (h : Int) : Bool := dT n h && (S h.toNat == 1)
theorem aLF (t : Int) (n k : Nat) (D S : Nat -> Int) (p m a b : Nat) (w : World) (hc : dY w p m t n D S) (hk : k < 8) (ha : w.cell? ⟨a, 0, none⟩ = some (.pointer (some ⟨p, 0, none⟩))) (hb : w.cell? ⟨b, 0, none⟩ = some (.int .i64 k)) :
 Calls prog 150 #[.pointer (some ⟨a, 0, none⟩), .pointer (some ⟨b, 0, none⟩)] w fun e w' => e = .returned (.bool (decide (D k <= t))) /\ ∃ j, w' = w.drewN j := by
 have c0 := hc.c0
 have c1 := hc.cD k hk
 have hl := hc.ltp
 clear hc
 go_enter func150, ntmps150
 go_wp2_with fail
 go_quiet (fail)
 go_wp2_with fail
 go_ret
 exact ⟨rfl, nq, rfl⟩
theorem aLH (t : Int) (n k : Nat) (D S : Nat -> Int) (p m a b : Nat) (w : World) (hc : dY w p m t n D S) (hk : k < 8) (ha : w.cell? ⟨a, 0, none⟩ = some (.pointer (some ⟨p, 0, none⟩))) (hb : w.cell? ⟨b, 0, none⟩ = some (.int .i64 k)) :
 Calls prog 192 #[.pointer (some ⟨a, 0, none⟩), .pointer (some ⟨b, 0, none⟩)] w fun e w' => e = .returned (.bool (S k == 1)) /\ ∃ j, w' = w.drewN j := by
 have c1 := hc.cS k hk
 have hl := hc.ltp
 clear hc
 go_enter func192, ntmps192
 go_wp2_with fail
 go_quiet (fail)
 go_wp2_with fail
 go_ret
 exact ⟨rfl, nq, rfl⟩
theorem wX {P : Prop} (h : P := by
 have HB := Hd hq
 clear hq
 go_enter func149, ntmps149
 go_wp2_with (go_at_call 96; refine (sV _ _ _ _ _ _ _ _ hc).mono ?_; rw [HB.out]; rintro e w' ⟨rfl, rfl⟩)
 go_ret
 exact ⟨rfl, aH w⟩
 ) : P := h
theorem aFZ (t h : Int) (n : Nat) (D S : Nat -> Int) (p m a b : Nat) (w : World) (hc : dY w p m t n D S) (ha : w.cell? ⟨a, 0, none⟩ = some (.pointer (some ⟨p, 0, none⟩))) (hb : w.cell? ⟨b, 0, none⟩ = some (.int .i64 h)) :
 Calls prog 149 #[.pointer (some ⟨p, 0, none⟩), .int .i64 h, .func (.func 150) #[] #[.pointer (some ⟨a, 0, none⟩), .pointer (some ⟨b, 0, none⟩)]] w
  fun e w' => e = .returned (.bool (oR t n D h)) /\ Below w.heap.size w w' := by
 have hn := hc.n1
 cases hq : dT n h
 . rw [show oR t n D h = false by unfold oR; rw [hq]; rfl]
   exact wX
 . have hh : 0 <= h /\ h < (n : Int) := by unfold dT at hq; simpa using hq
   obtain ⟨k, rfl⟩ := Int.eq_ofNat_of_zero_le hh.1
   have hk : k < 8 := by omega
   rw [show oR t n D (k : Int) = decide (D k <= t) by unfold oR; rw [hq]; rfl]
   have HB := Hd hq
   clear hq hh
   go_enter func149, ntmps149
   go_wp2_with (go_at_call 96; refine (sV _ _ _ _ _ _ _ _ hc).mono ?_; rw [HB.out]; rintro e w' ⟨rfl, rfl⟩)
   refine (aLF t n k D S p m a b _ hc hk ha hb).mono ?_
   rintro e w' ⟨rfl, j, rfl⟩
   go_wp2_with fail
   go_ret
   exact ⟨rfl, vG (aH w) _⟩
theorem aJ6 (t h : Int) (n : Nat) (D S : Nat -> Int) (p m : Nat) (w : World) (hc : dY w p m t n D S) :
 Calls prog 83 #[.pointer (some ⟨p, 0, none⟩), .int .i64 h] w fun e w' => e = .returned (.bool (oR t n D h)) /\ Below w.heap.size w w' := by
 have hmf : ∀ (fn : Fn) (first cap : Array Value) (w : World), (Instr.makeFunc fn first cap).run prog w = .ok (.func fn first cap) w := fun _ _ _ _ => rfl
 have hc2 := hc.below (aE (aE (aH w) (.cells #[.pointer (some ⟨p, 0, none⟩)] 110)) (.cells #[.int .i64 h] 3))
 have h0 := aA (bM w (.cells #[.pointer (some ⟨p, 0, none⟩)] 110) (.cells #[.int .i64 h] 3)) 0
 have h1 := aA (bU w (.cells #[.pointer (some ⟨p, 0, none⟩)] 110) (.cells #[.int .i64 h] 3)) 0
 simp only [y0q, List.getElem?_cons_zero] at h0 h1
 have H2 := Hd hc2
 clear hc2 hc
 go_enter func83, ntmps83
 go_wp2_with fail
 refine (aFZ t h n D S p m _ _ _ H2.out h0 h1).mono ?_
 rintro e w' ⟨rfl, hb⟩
 go_wp2_with fail
 go_ret
 exact ⟨rfl, tr (aE (aE (aH w) _) _) hb⟩
theorem aFa (t h : Int) (n : Nat) (D S : Nat -> Int) (p m a b : Nat) (w : World) (hc : dY w p m t n D S) (ha : w.cell? ⟨a, 0, none⟩ = some (.pointer (some ⟨p, 0, none⟩))) (hb : w.cell? ⟨b, 0, none⟩ = some (.int .i64 h)) :
 Calls prog 149 #[.pointer (some ⟨p, 0, none⟩), .int .i64 h, .func (.func 192) #[] #[.pointer (some ⟨a, 0, none⟩), .pointer (some ⟨b, 0, none⟩)]] w
  fun e w' => e = .returned (.bool (cSf n S h)) /\ Below w.heap.size w w' := by
 have hn := hc.n1
 cases hq : dT n h
 . rw [show cSf n S h = false by unfold cSf; rw [hq]; rfl]
   exact wX
 . have hh : 0 <= h /\ h < (n : Int) := by unfold dT at hq; simpa using hq
   obtain ⟨k, rfl⟩ := Int.eq_ofNat_of_zero_le hh.1
   have hk : k < 8 := by omega
   rw [show cSf n S (k : Int) = (S k == 1) by unfold cSf; rw [hq]; rfl]
   have HB := Hd hq
   clear hq hh
   go_enter func149, ntmps149
   go_wp2_with (go_at_call 96; refine (sV _ _ _ _ _ _ _ _ hc).mono ?_; rw [HB.out]; rintro e w' ⟨rfl, rfl⟩)
   refine (aLH t n k D S p m a b _ hc hk ha hb).mono ?_
   rintro e w' ⟨rfl, j, rfl⟩
   go_wp2_with fail
   go_ret
   exact ⟨rfl, vG (aH w) _⟩
theorem aNr (t h : Int) (n : Nat) (D S : Nat -> Int) (p m : Nat) (w : World) (hc : dY w p m t n D S) :
 Calls prog 117 #[.pointer (some ⟨p, 0, none⟩), .int .i64 h] w fun e w' => e = .returned (.bool (cSf n S h)) /\ Below w.heap.size w w' := by
 have hmf : ∀ (fn : Fn) (first cap : Array Value) (w : World), (Instr.makeFunc fn first cap).run prog w = .ok (.func fn first cap) w := fun _ _ _ _ => rfl
 have hc2 := hc.below (aE (aE (aH w) (.cells #[.pointer (some ⟨p, 0, none⟩)] 110)) (.cells #[.int .i64 h] 3))
 have h0 := aA (bM w (.cells #[.pointer (some ⟨p, 0, none⟩)] 110) (.cells #[.int .i64 h] 3)) 0
 have h1 := aA (bU w (.cells #[.pointer (some ⟨p, 0, none⟩)] 110) (.cells #[.int .i64 h] 3)) 0
 simp only [y0q, List.getElem?_cons_zero] at h0 h1
 have H2 := Hd hc2
 clear hc2 hc
 go_enter func117, ntmps117
 go_wp2_with fail
 refine (aFa t h n D S p m _ _ _ H2.out h0 h1).mono ?_
 rintro e w' ⟨rfl, hb⟩
 go_wp2_with fail
 go_ret
 exact ⟨rfl, tr (aE (aE (aH w) _) _) hb⟩
def stB (a wr cl v : Int) (i : Nat) : Bool := if (aO cl i && aO v i) = true then false else if aO wr i = true then aO v i else aO a i
def stV (a wr cl v : Int) : Int := ((fK (stB a wr cl v) 32 : Nat) : Int)
def ob (f : Nat -> Bool) (k : Nat) : Int := ((fK f k : Nat) : Int)
def un (k : Nat) : Int := 2 ^ k % 4294967296
theorem gW (f : Nat -> Bool) (k : Nat) (h : k <= 32) : 0 <= ob f k /\ ob f k < 4294967296 := by
 have a := lE f k
 have b : 2 ^ k <= 2 ^ 32 := Nat.pow_le_pow_right (by decide) h
 unfold ob; omega
theorem lI (k : Nat) : 0 <= un k /\ un k < 4294967296 := by unfold un; omega
theorem aDE (k : Nat) (h : k < 32) : un k = ((2 ^ k : Nat) : Int) := by
 have b : 2 ^ k <= 2 ^ 31 := Nat.pow_le_pow_right (by decide) (by omega)
 unfold un; rw [<- jR]
 generalize 2 ^ k = x at b ⊢
 omega
theorem aAa (k : Nat) : un (k + 1) = 2 * un k % 4294967296 := by
 unfold un; rw [Int.pow_succ]; omega
theorem aGr (f : Nat -> Bool) (k : Nat) (h : k < 32) : ob f k + un k < 4294967296 := by
 have a := lE f k
 have b : 2 ^ (k + 1) <= 2 ^ 32 := Nat.pow_le_pow_right (by decide) (by omega)
 rw [Nat.pow_succ] at b
 rw [aDE k h]; unfold ob; omega
theorem uR (f : Nat -> Bool) (k : Nat) (h : k < 32) (hf : f k = true) : ob f (k + 1) = ob f k + un k := by
 rw [aDE k h]; unfold ob; rw [fK, if_pos hf]; push_cast; rfl
theorem yM (f : Nat -> Bool) (k : Nat) (hf : f k = false) : ob f (k + 1) = ob f k := by
 unfold ob; rw [fK, if_neg (by rw [hf]; decide)]; simp
theorem bG (n : Int) (i : Nat) (h : 0 <= n) : aO n i = n.toNat.testBit i := by
 obtain ⟨m, rfl⟩ := Int.eq_ofNat_of_zero_le h
 rw [Int.toNat_natCast, Nat.testBit_eq_decide_div_mod_eq]
 unfold aO
 have : ((m : Int) / 2 ^ i % 2) = ((m / 2 ^ i % 2 : Nat) : Int) := by push_cast; rfl
 rw [this]
 exact decide_eq_decide.2 (by omega)
theorem kE (f : Nat -> Bool) (i : Nat) : aO ((fK f 32 : Nat) : Int) i = (decide (i < 32) && f i) := by
 rw [bG _ _ (by omega), Int.toNat_natCast, iL]
theorem aAu (n : Int) (i : Nat) (h0 : 0 <= n) (h1 : n < 4294967296) (hi : 32 <= i) : aO n i = false := by
 rw [bG n i h0]
 apply Nat.testBit_lt_two_pow
 have : 2 ^ 32 <= 2 ^ i := Nat.pow_le_pow_right (by decide) hi
 omega
theorem jA {a b : Int} (a0 : 0 <= a) (a1 : a < 4294967296) (b0 : 0 <= b) (b1 : b < 4294967296) (h : ∀ i, i < 32 -> aO a i = aO b i) : a = b := by
 have : a.toNat = b.toNat := by
  apply Nat.eq_of_testBit_eq
  intro i
  rw [<- bG a i a0, <- bG b i b0]
  by_cases hi : i < 32
  . exact h i hi
  . rw [aAu a i a0 a1 (by omega), aAu b i b0 b1 (by omega)]
 omega
theorem aB7 (a b : Int) (a0 : 0 <= a) (a1 : a < 4294967296) (b0 : 0 <= b) (b1 : b < 4294967296) : 0 <= bits BinOp.and IntKind.u32 a b /\ bits BinOp.and IntKind.u32 a b < 4294967296 := by
 rw [u32_and _ _ a0 a1 b0 b1]
 have : a.toNat &&& b.toNat <= a.toNat := Nat.and_le_left
 omega
theorem jC (a b : Int) (a0 : 0 <= a) (a1 : a < 4294967296) (b0 : 0 <= b) (b1 : b < 4294967296) : 0 <= bits BinOp.andNot IntKind.u32 a b /\ bits BinOp.andNot IntKind.u32 a b < 4294967296 := by
 rw [u32_andNot _ _ a0 a1 b0 b1]
 have : a.toNat &&& (4294967295 - b.toNat) <= a.toNat := Nat.and_le_left
 omega
theorem aCr (a b : Int) (a0 : 0 <= a) (a1 : a < 4294967296) (b0 : 0 <= b) (b1 : b < 4294967296) : bits BinOp.or IntKind.u32 a b = ((a.toNat ||| b.toNat : Nat) : Int) := by
 obtain ⟨m, rfl⟩ := Int.eq_ofNat_of_zero_le a0
 obtain ⟨n, rfl⟩ := Int.eq_ofNat_of_zero_le b0
 rw [u32_or_nat _ _ (by omega) (by omega)]; simp
theorem aEn (a b : Int) (a0 : 0 <= a) (a1 : a < 4294967296) (b0 : 0 <= b) (b1 : b < 4294967296) : 0 <= bits BinOp.or IntKind.u32 a b /\ bits BinOp.or IntKind.u32 a b < 4294967296 := by
 rw [aCr _ _ a0 a1 b0 b1]
 have : a.toNat ||| b.toNat < 2 ^ 32 := Nat.or_lt_two_pow (by omega) (by omega)
 omega
theorem aIM (a b : Int) (i : Nat) (a0 : 0 <= a) (a1 : a < 4294967296) (b0 : 0 <= b) (b1 : b < 4294967296) : aO (bits BinOp.and IntKind.u32 a b) i = (aO a i && aO b i) := by
 rw [u32_and _ _ a0 a1 b0 b1, bG _ _ (by omega), Int.toNat_natCast, Nat.testBit_and, bG _ _ a0, bG _ _ b0]
theorem aK9 (a b : Int) (i : Nat) (a0 : 0 <= a) (a1 : a < 4294967296) (b0 : 0 <= b) (b1 : b < 4294967296) : aO (bits BinOp.or IntKind.u32 a b) i = (aO a i || aO b i) := by
 rw [aCr _ _ a0 a1 b0 b1, bG _ _ (by omega), Int.toNat_natCast, Nat.testBit_or, bG _ _ a0, bG _ _ b0]
theorem kD (a b : Int) (i : Nat) (hi : i < 32) (a0 : 0 <= a) (a1 : a < 4294967296) (b0 : 0 <= b) (b1 : b < 4294967296) : aO (bits BinOp.andNot IntKind.u32 a b) i = (aO a i && !aO b i) := by
 rw [u32_andNot _ _ a0 a1 b0 b1, bG _ _ (by omega), Int.toNat_natCast, Nat.testBit_and, bG _ _ a0, bG _ _ b0,
  show 4294967295 - b.toNat = 2 ^ 32 - (b.toNat + 1) from by omega, Nat.testBit_two_pow_sub_succ (by omega)]
 simp [hi]
theorem kY (i : Nat) : aO 0 i = false := by unfold aO; simp
def lst (f : Nat -> Bool) : Nat -> Nat -> Int
 | 0, _ => -1
 | k + 1, i => if f i = true then (i : Int) else lst f k (i + 1)
def oT (f : Nat -> Bool) : Int := lst f 32 0
def yL (f : Nat -> Bool) (k : Nat) : Prop := ∀ q, q < k -> f q = false
theorem aBN (f : Nat -> Bool) : yL f 0 := fun q h => by omega
theorem uQ (f : Nat -> Bool) (k : Nat) (h : yL f k) (hf : f k = false) : yL f (k + 1) := fun q hq => by
 by_cases e : q = k
 . rw [e]; exact hf
 . exact h q (by omega)
theorem aGf (f : Nat -> Bool) (p : Nat) (hp : f p = true) : ∀ d i k, i + d = p -> d < k -> (∀ q, i <= q -> q < p -> f q = false) -> lst f k i = p := by
 intro d
 induction d with
 | zero =>
   intro i k h1 h2 _
   obtain rfl : i = p := by omega
   obtain ⟨j, rfl⟩ : ∃ j, k = j + 1 := ⟨k - 1, by omega⟩
   rw [lst, if_pos hp]
 | succ d ih =>
   intro i k h1 h2 h3
   obtain ⟨j, rfl⟩ : ∃ j, k = j + 1 := ⟨k - 1, by omega⟩
   rw [lst, if_neg (by rw [h3 i (by omega) (by omega)]; simp)]
   exact ih (i + 1) j (by omega) (by omega) fun q h4 h5 => h3 q (by omega) h5
theorem aBL (f : Nat -> Bool) : ∀ k i, (∀ q, i <= q -> q < i + k -> f q = false) -> lst f k i = -1 := by
 intro k
 induction k with
 | zero => intro i _; rfl
 | succ k ih =>
   intro i h
   rw [lst, if_neg (by rw [h i (by omega) (by omega)]; simp)]
   exact ih (i + 1) fun q h1 h2 => h q (by omega) (by omega)
theorem aCf (f : Nat -> Bool) (k : Nat) (h : yL f k) (hk : k < 32) (hf : f k = true) : oT f = k :=
 aGf f k hf k 0 32 (by omega) hk fun q _ h2 => h q h2
theorem aCe (f : Nat -> Bool) (k : Nat) (h : yL f k) (hk : 32 <= k) : oT f = -1 :=
 aBL f 32 0 fun q _ h2 => h q (by omega)
theorem aBH (f g : Nat -> Bool) (h : ∀ i, i < 32 -> f i = g i) : oT f = oT g := by
 have key : ∀ k i, i + k <= 32 -> lst f k i = lst g k i := by
  intro k
  induction k with
  | zero => intro i _; rfl
  | succ k ih => intro i hi; rw [lst, lst, h i (by omega), ih (i + 1) (by omega)]
 exact key 32 0 (by omega)
theorem aEd (f : Nat -> Bool) (i : Nat) (hi : i < 32) (h : f i = true) : 0 <= oT f := by
 have key : ∀ k j, j <= i -> i < j + k -> 0 <= lst f k j := by
  intro k
  induction k with
  | zero => intro j h1 h2; omega
  | succ k ih =>
    intro j h1 h2
    rw [lst]
    split
    . omega
    . rename_i hj
      refine ih (j + 1) ?_ (by omega)
      by_cases e : j = i
      . subst e; exact absurd h hj
      . omega
 exact key 32 0 (by omega) (by omega)
theorem aGV (f : Nat -> Bool) (h : ∀ i, i < 32 -> f i = false) : oT f = -1 := aBL f 32 0 fun q _ h2 => h q (by omega)
def lm (h m : Int) (i : Nat) : Bool := aO h i && aO m i
def aGz (h m : Int) : Bool := decide (0 <= oT (lm h m))
theorem aG0 (h m : Int) (h0 : 0 <= h) (h1 : h < 4294967296) (m0 : 0 <= m) (m1 : m < 4294967296) : (!(h == bits BinOp.andNot IntKind.u32 h m)) = aGz h m := by
 have hb := jC h m h0 h1 m0 m1
 unfold aGz
 by_cases e : ∀ i, i < 32 -> lm h m i = false
 . have : h = bits BinOp.andNot IntKind.u32 h m := jA h0 h1 hb.1 hb.2 fun i hi => by
    rw [kD h m i hi h0 h1 m0 m1]
    have := e i hi
    unfold lm at this
    cases hh : aO h i
    . rfl
    . rw [hh] at this; simp at this; rw [this]; rfl
   rw [beq_iff_eq.2 this, aGV _ e]
   rfl
 . have : ¬ h = bits BinOp.andNot IntKind.u32 h m := fun e2 => e fun i hi => by
    have g := kD h m i hi h0 h1 m0 m1
    rw [<- e2] at g
    unfold lm
    cases hh : aO h i
    . rfl
    . rw [hh] at g; simp at g; rw [g]; rfl
   obtain ⟨i, hi⟩ := Classical.not_forall.1 e
   obtain ⟨hi, hl⟩ := Classical.not_imp.1 hi
   rw [beq_eq_false_iff_ne.2 this, decide_eq_true (aEd _ i hi (by simpa using hl))]
   rfl
theorem vT (n : Int) (i : Nat) (h : 0 <= n) : ((n.toNat / 2 ^ i % 2 : Nat) : Int) = n / 2 ^ i % 2 := by
 have h1 : n = ((n.toNat : Nat) : Int) := by omega
 have h2 : (2 : Int) ^ i = ((2 ^ i : Nat) : Int) := by push_cast; rfl
 conv => rhs; rw [h1, h2]
 rw [<- Int.natCast_ediv]; omega
theorem aES (n : Int) (k : Nat) (h0 : 0 <= n) (hk : k < 32) : (field n (k : Int) 1 == 1) = aO n k := by
 unfold field aO
 rw [if_pos (by unfold inw; simp; omega), Int.toNat_natCast]
 have h : ((n.toNat / 2 ^ k % 2 ^ min (1 : Int).toNat 32 : Nat) : Int) = n / 2 ^ k % 2 := by
  have : min (1 : Int).toNat 32 = 1 := by decide
  rw [this, Nat.pow_one]; exact vT n k h0
 rw [h]
 by_cases e : n / 2 ^ k % 2 = 1
 . rw [e]; rfl
 . rw [beq_eq_false_iff_ne.2 e, decide_eq_false e]
def tk (b : Bool) : Int := cond b 1 0
theorem mQ (n : Int) (k : Nat) (b : Bool) (hk : k < 32) (h0 : 0 <= n) (i : Nat) (hi : i < 32) : aO (put n (k : Int) 1 (tk b)) i = if i = k then b else aO n i := by
 unfold put
 rw [if_pos (by unfold inw; simp; omega), kE, decide_eq_true hi, Bool.true_and]
 unfold kH
 rw [Int.toNat_natCast, show (1 : Int).toNat = 1 from rfl]
 by_cases e : i = k
 . subst e
   rw [if_pos (by omega), if_pos rfl, Nat.sub_self]
   cases b <;> rfl
 . rw [if_neg (by omega), if_neg e, bG n i h0]
theorem pV (n low width : Int) (h0 : 0 <= n) (h1 : n < 4294967296) : 0 <= field n low width /\ field n low width < 4294967296 := by
 unfold field; split
 . have a : n.toNat / 2 ^ low.toNat % 2 ^ min width.toNat 32 <= n.toNat := Nat.le_trans (Nat.mod_le _ _) (Nat.div_le_self _ _)
   omega
 . omega
theorem iZ (n low width v : Int) (h0 : 0 <= n) (h1 : n < 4294967296) : 0 <= put n low width v /\ put n low width v < 4294967296 := by
 unfold put; split
 . have := lE (kH n low width v) 32
   have e32 : (2 : Nat) ^ 32 = 4294967296 := by decide
   omega
 . omega
end Go.Proofs.YtaohacadochldaaGreat.B
