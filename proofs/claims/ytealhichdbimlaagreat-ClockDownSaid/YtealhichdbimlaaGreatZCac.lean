/- A part of the proof of a law of layer 12: ac. -/
import Derived.Test.YtealhichdbimlaaGreatZCab
import Derived.Deep.Cut
set_option linter.unusedVariables false
set_option linter.unusedSimpArgs false
set_option maxHeartbeats 12800000
set_option maxRecDepth 100000
namespace Go.Proofs.YtealhichdbimlaaGreat.B
open Go.Proofs.Tryz
open List renaming getElem?_toArray -> y0q
open Go.ChangeShapes Go.WideShapes Go.RowKit Go.Sort Go.MapKept
def nQ (t : Int) (n : Nat) (D S : Nat -> Int) (m : Nat) : List Value := [.int .u64 t, .int .i64 n] ++ (il .u64 D 8 ++ (il .u32 S 8 ++ [.map (some m)]))
theorem sO (t : Int) (n : Nat) (D S : Nat -> Int) (m : Nat) : (nQ t n D S m).length = 19 := by simp [nQ, cA]
theorem aN0 (t : Int) (n : Nat) (D S : Nat -> Int) (m i : Nat) (h : i < 8) : (nQ t n D S m)[2 + i]? = some (.int .u64 (D i)) := by
 unfold nQ; rw [eB _ _ 2 i (by rfl), mI _ _ _ (by rw [cA]; exact h), oT _ _ _ _ h]
theorem aN1 (t : Int) (n : Nat) (D S : Nat -> Int) (m i : Nat) (h : i < 8) : (nQ t n D S m)[10 + i]? = some (.int .u32 (S i)) := by
 unfold nQ; rw [show 10 + i = 2 + (8 + i) by omega, eB _ _ 2 _ (by rfl), eB _ _ 8 i (by rw [cA]), mI _ _ _ (by rw [cA]; exact h), oT _ _ _ _ h]
theorem aJ8 (t : Int) (n : Nat) (D S : Nat -> Int) (m : Nat) : (nQ t n D S m)[18]? = some (.map (some m)) := by
 unfold nQ; rw [show 18 = 2 + (8 + (8 + 0)) by omega, eB _ _ 2 _ (by rfl), eB _ _ 8 _ (by rw [cA]), eB _ _ 8 _ (by rw [cA])]; rfl
theorem aFf (t : Int) (n : Nat) (D S : Nat -> Int) (m : Nat) (v : Int) : (nQ t n D S m).set 0 (.int .u64 v) = nQ v n D S m := rfl
theorem aFc (t : Int) (n : Nat) (D S : Nat -> Int) (m i : Nat) (v : Int) (h : i < 8) : (nQ t n D S m).set (2 + i) (.int .u64 v) = nQ t n (upd D i v) S m := by
 unfold nQ; rw [gC _ _ 2 i _ (by rfl), gT _ _ _ _ (by rw [cA]; exact h), tW]
theorem aFe (t : Int) (n : Nat) (D S : Nat -> Int) (m i : Nat) (v : Int) (h : i < 8) : (nQ t n D S m).set (10 + i) (.int .u32 v) = nQ t n D (upd S i v) m := by
 unfold nQ; rw [show 10 + i = 2 + (8 + i) by omega, gC _ _ 2 _ _ (by rfl), gC _ _ 8 i _ (by rw [cA]), gT _ _ _ _ (by rw [cA]; exact h), tW]
theorem aFd (t : Int) (n : Nat) (D S : Nat -> Int) (m k : Nat) : (nQ t n D S m).set 18 (.map (some k)) = nQ t n D S k := by
 unfold nQ; rw [show 18 = 2 + (8 + (8 + 0)) by omega, gC _ _ 2 _ _ (by rfl), gC _ _ 8 _ _ (by rw [cA]), gC _ _ 8 _ _ (by rw [cA])]; rfl
theorem aIJ (t : Int) (n : Nat) (D S : Nat -> Int) (m : Nat) : ∀ v ∈ nQ t n D S m, v.oneCell' = true := by
 intro v h
 unfold nQ at h
 simp only [List.mem_append, List.mem_cons, List.not_mem_nil, or_false] at h
 rcases h with (rfl | rfl) | h | h | rfl
 . rfl
 . rfl
 . exact tT _ _ _ v h
 . exact tT _ _ _ v h
 . rfl
structure dR (w : World) (p m : Nat) (t : Int) (n : Nat) (D S : Nat -> Int) : Prop where
 cell : w.heap[p]? = some (.cells (nQ t n D S m).toArray 168 (0, 0))
 map : dT w ek lR m (pD n)
 t0 : 0 <= t
 t1 : t < 18446744073709551616
 n0 : 1 <= n
 n1 : n <= 8
 d : okD D
 s : okS S
section
variable {w w' : World} {p m n : Nat} {t : Int} {D S : Nat -> Int}
theorem dR.ltp (h : dR w p m t n D S) : p < w.heap.size := lt_of_block h.cell
theorem dR.ltm (h : dR w p m t n D S) : m < w.heap.size := h.map.lt
theorem dR.ne (h : dR w p m t n D S) : p ≠ m := fun e => by obtain ⟨_, _, hb, _⟩ := h.map; rw [<- e, h.cell] at hb; cases hb
theorem dR.kept (h : dR w p m t n D S) (h1 : w'.heap[p]? = w.heap[p]?) (h2 : w'.heap[m]? = w.heap[m]?) : dR w' p m t n D S :=
 ⟨h1.trans h.cell, h.map.kept h2, h.t0, h.t1, h.n0, h.n1, h.d, h.s⟩
theorem dR.off {X : Nat -> Prop} (h : dR w p m t n D S) (ho : aF X w w') (h1 : ¬ X p) (h2 : ¬ X m) : dR w' p m t n D S :=
 h.kept (ho.block p h.ltp h1) (ho.block m h.ltm h2)
theorem dR.below (h : dR w p m t n D S) (ho : Below w.heap.size w w') : dR w' p m t n D S := h.kept (ho.block p h.ltp) (ho.block m h.ltm)
theorem dR.c0 (h : dR w p m t n D S) : w.cell? ⟨p, 0, none⟩ = some (.int .u64 t) := by have := aA h.cell 0; simpa [nQ] using this
theorem dR.c1 (h : dR w p m t n D S) : w.cell? ⟨p, 1, none⟩ = some (.int .i64 n) := by have := aA h.cell 1; simpa [nQ] using this
theorem dR.cD (h : dR w p m t n D S) (i : Nat) (hi : i < 8) : w.cell? ⟨p, 2 + i, none⟩ = some (.int .u64 (D i)) := by
 have := aA h.cell (2 + i); rw [this, y0q]; exact aN0 _ _ _ _ _ _ hi
theorem dR.cS (h : dR w p m t n D S) (i : Nat) (hi : i < 8) : w.cell? ⟨p, 10 + i, none⟩ = some (.int .u32 (S i)) := by
 have := aA h.cell (10 + i); rw [this, y0q]; exact aN1 _ _ _ _ _ _ hi
theorem dR.cM (h : dR w p m t n D S) : w.cell? ⟨p, 18, none⟩ = some (.map (some m)) := by
 have := aA h.cell 18; rw [this, y0q]; exact aJ8 _ _ _ _ _
theorem dR.free (h : dR w p m t n D S) (j : Nat) : w.frozen? ⟨p, j, none⟩ = false := aN h.cell j
theorem dR.set (h : dR w p m t n D S) (j : Nat) (v : Value) {t' : Int} {D' S' : Nat -> Int} (he : (nQ t n D S m).set j v = nQ t' n D' S' m) (ht : 0 <= t' /\ t' < 18446744073709551616) (hd : okD D') (hs : okS S') :
 dR (w.setCell ⟨p, j, none⟩ v) p m t' n D' S' :=
 ⟨by rw [aR h.cell, <- he]; simp, h.map.kept (Below.heap_setCell w ⟨p, j, none⟩ v m (fun e => h.ne e.symm)), ht.1, ht.2, h.n0, h.n1, hd, hs⟩
theorem dR.setT (h : dR w p m t n D S) {v : Int} (v0 : 0 <= v) (v1 : v < 18446744073709551616) : dR (w.setCell ⟨p, 0, none⟩ (.int .u64 v)) p m v n D S :=
 h.set 0 _ (aFf _ _ _ _ _ _) ⟨v0, v1⟩ h.d h.s
theorem dR.setD (h : dR w p m t n D S) (i : Nat) {v : Int} (hi : i < 8) (v0 : 0 <= v) (v1 : v < 18446744073709551616) : dR (w.setCell ⟨p, 2 + i, none⟩ (.int .u64 v)) p m t n (upd D i v) S :=
 h.set _ _ (aFc _ _ _ _ _ _ _ hi) ⟨h.t0, h.t1⟩ (h.d.upd i v0 v1) h.s
theorem dR.setS (h : dR w p m t n D S) (i : Nat) {v : Int} (hi : i < 8) (v0 : 0 <= v) (v1 : v < 4294967296) : dR (w.setCell ⟨p, 10 + i, none⟩ (.int .u32 v)) p m t n D (upd S i v) :=
 h.set _ _ (aFe _ _ _ _ _ _ _ hi) ⟨h.t0, h.t1⟩ h.d (h.s.upd i v0 v1)
end
theorem gU {B : Nat} {w w' : World} (h : Below B w w') (b : Nat) (o : Obj) (hb : B <= b) : Below B w (Go.ChangeMaps.setBlock w' b o) :=
 ⟨h.os, h.tape, h.output, by simpa [Go.ChangeMaps.setBlock] using h.size, fun k hk => by
  have : b ≠ k := by omega
  simp only [Go.ChangeMaps.setBlock, Array.getElem?_setIfInBounds, if_neg this]; exact h.block k hk⟩
theorem aPv (w : World) : ∃ es c w', (Instr.mapUpdate 166 (.map (some w.heap.size)) (ek 49144) (eK 3 0)).run prog (w.alloc (.map #[] 0)).drew = .ok () w' /\
 (Instr.mapUpdate 166 (.map (some w.heap.size)) (ek 49148) (eK 4 0)).run prog w' = .ok () es /\ dT es ek lR w.heap.size (pD 0) /\ Below w.heap.size w es /\ c = () := by
 have M0 : dT (w.alloc (.map #[] 0)).drew ek lR w.heap.size [] := (rH w ek lR).kept rfl
 obtain ⟨e1, c1, h1, m1⟩ := M0.update fU underlying166 49144 (eK 3 0) ⟨by omega, by omega⟩
 obtain ⟨e2, c2, h2, m2⟩ := m1.update fU underlying166 49148 (eK 4 0) ⟨by omega, by omega⟩
 refine ⟨_, (), _, h1, h2, m2.perm ?_, ?_, rfl⟩
 . simp [mT, pD]
 . exact gU (gU (jT (aE (aI w) _)) _ _ (Nat.le_refl _)) _ _ (Nat.le_refl _)
theorem aOT (w : World) : ∃ es c w', (Instr.mapUpdate 166 (.map (some w.heap.size)) (ek 49148) (eK 4 0)).run prog (w.alloc (.map #[] 0)).drew = .ok () w' /\
 (Instr.mapUpdate 166 (.map (some w.heap.size)) (ek 49144) (eK 3 0)).run prog w' = .ok () es /\ dT es ek lR w.heap.size (pD 0) /\ Below w.heap.size w es /\ c = () := by
 have M0 : dT (w.alloc (.map #[] 0)).drew ek lR w.heap.size [] := (rH w ek lR).kept rfl
 obtain ⟨e1, c1, h1, m1⟩ := M0.update fU underlying166 49148 (eK 4 0) ⟨by omega, by omega⟩
 obtain ⟨e2, c2, h2, m2⟩ := m1.update fU underlying166 49144 (eK 3 0) ⟨by omega, by omega⟩
 refine ⟨_, (), _, h1, h2, m2.perm ?_, ?_, rfl⟩
 . simp only [mT, pD]; exact List.Perm.swap _ _ _
 . exact gU (gU (jT (aE (aI w) _)) _ _ (Nat.le_refl _)) _ _ (Nat.le_refl _)
theorem aGN (k : Nat) (h : k <= 7) : mT (4 * (k : Int)) (eK 0 k) (pD k) = (4 * (k : Int), eK 0 k) :: pD k :=
 uO fun p hp => by rcases zT k p hp with g | g | ⟨j, hj, g | g | g⟩ <;> omega
theorem wH {P : Prop} (h : P := by
 rcases List.mem_cons.1 hp with rfl | hp
 . show (4 * (k : Int)) ≠ _; omega
 . rcases zT k p hp with g | g | ⟨j, hj, g | g | g⟩ <;> omega
 ) : P := h
theorem aGO (k : Nat) (h : k <= 7) : mT (16384 + 8 * (k : Int)) (eK 1 k) ((4 * (k : Int), eK 0 k) :: pD k) = (16384 + 8 * (k : Int), eK 1 k) :: (4 * (k : Int), eK 0 k) :: pD k :=
 uO fun p hp => by
  exact wH
theorem aGP (k : Nat) (h : k <= 7) : mT (16384 + 8 * (k : Int) + 4) (eK 2 k) ((16384 + 8 * (k : Int), eK 1 k) :: (4 * (k : Int), eK 0 k) :: pD k) = pD (k + 1) :=
 uO fun p hp => by
  rcases List.mem_cons.1 hp with rfl | hp
  . show (16384 + 8 * (k : Int)) ≠ _; omega
  . exact wH
def aFD (w w' : World) (n : Nat) : Prop := dT w' ek lR w.heap.size (pD n) /\ Below w.heap.size w w'
theorem aII (n : Nat) (w : World) (hn : n <= 8) :
 Calls prog 173 #[.int .i64 n] w fun e w' => e = .returned (.map (some w.heap.size)) /\ aFD w w' n := by
 have hmm := @run_makeMap prog
 obtain ⟨X, _, V, hx1, hx2, hX, hbX, _⟩ := aPv w
 obtain ⟨Y, _, Z, hy1, hy2, hY, hbY, _⟩ := aOT w
 have HX := Hd hX
 have HY := Hd hY
 have HXb := Hd hbX
 have HYb := Hd hbY
 clear hX hY hbX hbY
 unfold ek eK at hx1 hx2 hy1 hy2
 go_enter func173, ntmps173
 go_upto_region 1 with (fail)
 refine rT fun K1 hK1 => ?_
 go_cut [3] from 12 (fun v w' => v = .map (some w.heap.size) /\ aFD w w' 0)
 case first =>
  go_region
  all_goals
   go_wp2_with fail
   go_meet
   case rel => exact ⟨rfl, by first | exact ⟨HX.out, HXb.out⟩ | exact ⟨HY.out, HYb.out⟩⟩
 case rest =>
  obtain ⟨rfl, hcut⟩ := hcut
  refine hK1 _ _ ?_
  clear hK1 hx1 hx2 hy1 hy2 HX HY HXb HYb
  go_wp2_with fail
  go_loopw [14] (fun i wr => ∃ k : Nat, k <= n /\ i = .int .i64 k /\ aFD w wr k) (fun i _ => n - (intOf i).toNat)
  case atStart => exact ⟨0, by omega, rfl, hcut⟩
  case round =>
   clear hcut
   obtain ⟨k, hk, rfl, hM, hb⟩ := hrel
   by_cases hlt : k < n
   . have e1 : (8 * (k : Int)) % 4294967296 = 8 * k := by omega
     have g1 := aGN k (by omega)
     have g2 := aGO k (by omega)
     have g3 := aGP k (by omega)
     have G1 := Hd g1
     have G2 := Hd g2
     have G3 := Hd g3
     clear g1 g2 g3
     go_wp2_with (first
      | (at_mapUpdate; refine pC fU rfl _ _ _ _ rfl underlying166 rfl hM (4 * (k : Int)) (eK 0 k) rfl rfl ⟨by omega, by omega⟩ ?_; intro w3 hM3 ho3; rw [G1.out] at hM3)
      | (at_mapUpdate; refine pC fU rfl _ _ _ _ rfl underlying166 rfl hM3 (16384 + 8 * (k : Int)) (eK 1 k) rfl rfl ⟨by omega, by omega⟩ ?_; intro w4 hM4 ho4; rw [G2.out] at hM4)
      | (at_mapUpdate; refine pC fU rfl _ _ _ _ rfl underlying166 rfl hM4 (16384 + 8 * (k : Int) + 4) (eK 2 k) rfl rfl ⟨by omega, by omega⟩ ?_; intro w5 hM5 ho5; rw [G3.out] at hM5))
     go_roundw
     case rel => exact ⟨k + 1, by omega, by go_num, hM5, aF.toBelow (aF.toBelow (aF.toBelow hb ho3 (fun _ h => by omega) (Nat.le_refl _)) ho4 (fun _ h => by omega) (Nat.le_refl _)) ho5 (fun _ h => by omega) (Nat.le_refl _)⟩
     case measure => simp [intOf]; omega
   . obtain rfl : k = n := by omega
     go_wp2_with fail
     go_ret
     exact ⟨rfl, hM, hb⟩
def rsD (D : Nat -> Int) (k : Nat) : Nat -> Int := fun i => if i < k then 18446744073709551615 else D i
def rsS (S : Nat -> Int) (k : Nat) : Nat -> Int := fun i => if i < k then 0 else S i
theorem aHS (D : Nat -> Int) : rsD D 0 = D := by funext i; simp [rsD]
theorem aHU (S : Nat -> Int) : rsS S 0 = S := by funext i; simp [rsS]
theorem qU {P : Prop} (h : P := by
 by_cases e : i = k
 . subst e; simp
 . rw [if_neg e]; simp only [show (i < k + 1) = (i < k) from propext (by omega)]
 ) : P := h
theorem aHR (D : Nat -> Int) (k : Nat) : upd (rsD D k) k 18446744073709551615 = rsD D (k + 1) := by
 funext i; unfold upd rsD
 exact qU
theorem aHT (S : Nat -> Int) (k : Nat) : upd (rsS S k) k 0 = rsS S (k + 1) := by
 funext i; unfold upd rsS
 exact qU
theorem dR.swapDS {w : World} {p m n i : Nat} {t : Int} {D S : Nat -> Int} (h : dR w p m t n D S) (hi : i < 8) :
 dR ((w.setCell ⟨p, 2 + i, none⟩ (.int .u64 18446744073709551615)).setCell ⟨p, 10 + i, none⟩ (.int .u32 0)) p m t n (upd D i 18446744073709551615) (upd S i 0) :=
 (h.setD i hi (by omega) (by omega)).setS i hi (by omega) (by omega)
theorem dR.swapSD {w : World} {p m n i : Nat} {t : Int} {D S : Nat -> Int} (h : dR w p m t n D S) (hi : i < 8) :
 dR ((w.setCell ⟨p, 10 + i, none⟩ (.int .u32 0)).setCell ⟨p, 2 + i, none⟩ (.int .u64 18446744073709551615)) p m t n (upd D i 18446744073709551615) (upd S i 0) :=
 (h.setS i hi (by omega) (by omega)).setD i hi (by omega) (by omega)
theorem dR.drew {w : World} {p m n : Nat} {t : Int} {D S : Nat -> Int} (h : dR w p m t n D S) : dR w.drew p m t n D S := h.kept rfl rfl
theorem aLF (t : Int) (n : Nat) (D S : Nat -> Int) (p m : Nat) (w : World) (h : dR w p m t n D S) :
 Calls prog 174 #[.pointer (some ⟨p, 0, none⟩)] w
  fun e w' => e = .returned (.tuple #[]) /\ dR w' p m t n (rsD D 8) (rsS S 8) /\ aF (· = p) w w' := by
 have H := Hd h
 clear h
 go_enter func174, ntmps174
 go_wp2_with fail
 go_loopw [5] (fun i wr => ∃ k : Nat, k <= 8 /\ i = .int .i64 k /\ dR wr p m t n (rsD D k) (rsS S k) /\ aF (· = p) w wr) (fun i _ => 8 - (intOf i).toNat)
 case atStart => exact ⟨0, by omega, rfl, by rw [aHS, aHU]; exact H.out, aF.refl _ _⟩
 case round =>
  obtain ⟨k, hk, rfl, hC, ho⟩ := hrel
  by_cases hlt : k < 8
  . have c1 := hC.cD k hlt
    have c2 := hC.cS k hlt
    have f1 := hC.free (2 + k)
    have f2 := hC.free (10 + k)
    have H1 := Hd (hC.drew.swapDS hlt)
    have H2 := Hd (hC.drew.swapSD hlt)
    have O1 := Hd ((ho.trans (uM wr)).trans ((aH wr.drew p (2 + k) (.int .u64 18446744073709551615)).trans (aH _ p (10 + k) (.int .u32 0))))
    have O2 := Hd ((ho.trans (uM wr)).trans ((aH wr.drew p (10 + k) (.int .u32 0)).trans (aH _ p (2 + k) (.int .u64 18446744073709551615))))
    have E1 := Hd (aHR D k)
    have E2 := Hd (aHT S k)
    clear hC ho
    go_wp2_with fail
    go_region
    all_goals
     go_wp2_with fail
     go_roundw
     case rel => exact ⟨k + 1, by omega, by go_num, by rw [<- E1.out, <- E2.out]; first | exact H1.out | exact H2.out, by first | exact O1.out | exact O2.out⟩
     case measure => simp [intOf]; omega
  . obtain rfl : k = 8 := by omega
    go_wp2_with fail
    go_end0
    exact ⟨rfl, hC, ho⟩
def nvD : Nat -> Int := fun _ => 18446744073709551615
def iT : Nat -> Int := fun _ => 0
theorem dR.congr {w : World} {p m n : Nat} {t : Int} {D S D' S' : Nat -> Int} (h : dR w p m t n D S) (hd : ∀ i, i < 8 -> D i = D' i) (hs : ∀ i, i < 8 -> S i = S' i) (hD : okD D') (hS : okS S') : dR w p m t n D' S' :=
 ⟨by rw [h.cell]; unfold nQ; rw [mO _ _ _ _ hd, mO _ _ _ _ hs], h.map, h.t0, h.t1, h.n0, h.n1, hD, hS⟩
theorem aCp : okD nvD := fun _ => by unfold nvD; omega
theorem aAG : okS iT := fun _ => by unfold iT; omega
theorem aDO (t : Int) (n : Nat) (D S : Nat -> Int) (p m : Nat) (w : World) (h : dR w p m t n D S) :
 Calls prog 174 #[.pointer (some ⟨p, 0, none⟩)] w
  fun e w' => e = .returned (.tuple #[]) /\ dR w' p m t n nvD iT /\ aF (· = p) w w' :=
 (aLF t n D S p m w h).mono fun e w' g => ⟨g.1, g.2.1.congr (fun i hi => by unfold rsD nvD; rw [if_pos hi]) (fun i hi => by unfold rsS iT; rw [if_pos hi]) aCp aAG, g.2.2⟩
def aPU (w : World) (n : Nat) (e : Ending) (w' : World) : Prop :=
 ∃ p, w.heap.size <= p /\ e = .returned (.tuple #[.pointer (some ⟨p, 0, none⟩), .int .i64 0]) /\ dR w' p w.heap.size 0 n nvD iT /\ Below w.heap.size w w'
theorem aPb (n : Nat) (w : World) (h1 : 1 <= n) (h8 : n <= 8) : Calls prog 103 #[.int .i64 n] w (aPU w n) := by
 go_enter func103, ntmps103
 go_wp2_with fail
 refine (aII n w h8).mono ?_
 rintro e w1 ⟨rfl, hM, hb⟩
 go_wp2_with fail
 have hC : dR (w1.alloc (.cells (nQ 0 n iT iT w.heap.size).toArray 168)) w1.heap.size w.heap.size 0 n iT iT :=
  ⟨aD _ _, hM.kept (aY _ _ hM.lt), by omega, by omega, h1, h8, fun _ => by unfold iT; omega, aAG⟩
 have hb1 := aE hb (.cells (nQ 0 n iT iT w.heap.size).toArray 168)
 have hp : w.heap.size <= w1.heap.size := hb.size
 refine (aDO 0 n iT iT _ _ _ hC).mono ?_
 rintro e w2 ⟨rfl, hC2, ho2⟩
 go_wp2_with fail
 go_ret2
 exact ⟨_, hp, rfl, hC2, aF.toBelow hb1 ho2 (fun _ h => by omega) (Nat.le_refl _)⟩
theorem aT {P : Prop} (h : P := by
 go_wp2_with fail
 go_ret
 exact ⟨rfl, rfl⟩
 ) : P := h
theorem aCI (t : Int) (n : Nat) (D S : Nat -> Int) (p m : Nat) (w : World) (h : dR w p m t n D S) :
 Calls prog 98 #[.pointer (some ⟨p, 0, none⟩)] w fun e w' => e = .returned (.int .i64 n) /\ w = w' := by
 have c1 := h.c1
 clear h
 go_enter func98, ntmps98
 exact aT
theorem aJ7 (t : Int) (n : Nat) (D S : Nat -> Int) (p m : Nat) (w : World) (h : dR w p m t n D S) :
 Calls prog 45 #[.pointer (some ⟨p, 0, none⟩)] w fun e w' => e = .returned (.int .u64 t) /\ w = w' := by
 have c1 := h.c0
 clear h
 go_enter func45, ntmps45
 exact aT
def dY (n : Nat) (h : Int) : Bool := decide (0 <= h /\ h < (n : Int))
theorem sN (h t : Int) (n : Nat) (D S : Nat -> Int) (p m : Nat) (w : World) (hc : dR w p m t n D S) :
 Calls prog 198 #[.pointer (some ⟨p, 0, none⟩), .int .i64 h] w fun e w' => e = .returned (.bool (dY n h)) /\ w = w' := by
 by_cases h0 : 0 <= h
 . by_cases h1 : h < (n : Int)
   . rw [show dY n h = true from decide_eq_true ⟨h0, h1⟩]
     go_enter func198, ntmps198
     go_wp2_with (go_at_call 98; refine (aCI _ _ _ _ _ _ _ hc).mono ?_; rintro e w' ⟨rfl, rfl⟩)
     go_ret
     exact ⟨rfl, rfl⟩
   . rw [show dY n h = false from decide_eq_false (fun e => h1 e.2)]
     go_enter func198, ntmps198
     go_wp2_with (go_at_call 98; refine (aCI _ _ _ _ _ _ _ hc).mono ?_; rintro e w' ⟨rfl, rfl⟩)
     go_ret
     exact ⟨cK (decide_eq_false (by omega)), rfl⟩
 . rw [show dY n h = false from decide_eq_false (fun e => h0 e.1)]
   go_enter func198, ntmps198
   exact aT
def pH (n : Nat) (D : Nat -> Int) (h : Int) : Int := if dY n h = true then D h.toNat else 18446744073709551615
theorem wB {P : Prop} (h : P := by
 go_enter func134, ntmps134
 go_wp2_with (go_at_call 198; refine (sN _ _ _ _ _ _ _ _ hc).mono ?_; rw [HB.out]; rintro e w' ⟨rfl, rfl⟩)
 go_ret
 exact ⟨rfl, rfl⟩
 ) : P := h
theorem aFY (h t : Int) (n : Nat) (D S : Nat -> Int) (p m : Nat) (w : World) (hc : dR w p m t n D S) :
 Calls prog 134 #[.pointer (some ⟨p, 0, none⟩), .int .i64 h] w fun e w' => e = .returned (.int .u64 (pH n D h)) /\ w = w' := by
 have hn := hc.n1
 cases hb : dY n h
 . rw [show pH n D h = 18446744073709551615 by unfold pH; rw [hb]; rfl]
   have HB := Hd hb
   clear hb
   exact wB
 . have hh : 0 <= h /\ h < (n : Int) := by unfold dY at hb; simpa using hb
   obtain ⟨k, rfl⟩ := Int.eq_ofNat_of_zero_le hh.1
   rw [show pH n D (k : Int) = D k by unfold pH; rw [if_pos hb]; rfl]
   have hk : k < 8 := by omega
   have c := hc.cD k hk
   have HB := Hd hb
   clear hb hh
   exact wB
theorem aNz (v t : Int) (n : Nat) (D S : Nat -> Int) (p m : Nat) (w : World) (hc : dR w p m t n D S) (v0 : 0 <= v) (v1 : v < 18446744073709551616) :
 Calls prog 271 #[.pointer (some ⟨p, 0, none⟩), .int .u64 v] w fun e w' => e = .returned (.tuple #[]) /\ dR w' p m (dM t v) n D S /\ aF (· = p) w w' := by
 have c := hc.c0
 have f := hc.free 0
 have t0 := hc.t0
 have t1 := hc.t1
 have b := kM t0 t1 v0 v1
 go_enter func271, ntmps271
 go_wp2_with (go_at_call 34; refine (Add _ _ _ t0 t1 v0 v1).mono ?_; rintro e w' ⟨rfl, rfl⟩)
 go_end0
 exact ⟨rfl, hc.setT b.1 b.2, aH _ _ _ _⟩
def zB (t : Int) (n : Nat) (D : Nat -> Int) (h : Int) : Bool := dY n h && decide (D h.toNat <= t)
def cSf (n : Nat) (S : Nat -> Int) (h : Int) : Bool := dY n h && (S h.toNat == 1)
theorem aLE (t : Int) (n k : Nat) (D S : Nat -> Int) (p m a b : Nat) (w : World) (hc : dR w p m t n D S) (hk : k < 8) (ha : w.cell? ⟨a, 0, none⟩ = some (.pointer (some ⟨p, 0, none⟩))) (hb : w.cell? ⟨b, 0, none⟩ = some (.int .i64 k)) :
 Calls prog 169 #[.pointer (some ⟨a, 0, none⟩), .pointer (some ⟨b, 0, none⟩)] w fun e w' => e = .returned (.bool (decide (D k <= t))) /\ ∃ j, w' = w.drewN j := by
 have c0 := hc.c0
 have c1 := hc.cD k hk
 have hl := hc.ltp
 clear hc
 go_enter func169, ntmps169
 go_wp2_with fail
 go_quiet (fail)
 go_wp2_with fail
 go_ret
 exact ⟨rfl, nq, rfl⟩
theorem aLG (t : Int) (n k : Nat) (D S : Nat -> Int) (p m a b : Nat) (w : World) (hc : dR w p m t n D S) (hk : k < 8) (ha : w.cell? ⟨a, 0, none⟩ = some (.pointer (some ⟨p, 0, none⟩))) (hb : w.cell? ⟨b, 0, none⟩ = some (.int .i64 k)) :
 Calls prog 170 #[.pointer (some ⟨a, 0, none⟩), .pointer (some ⟨b, 0, none⟩)] w fun e w' => e = .returned (.bool (S k == 1)) /\ ∃ j, w' = w.drewN j := by
 have c1 := hc.cS k hk
 have hl := hc.ltp
 clear hc
 go_enter func170, ntmps170
 go_wp2_with fail
 go_quiet (fail)
 go_wp2_with fail
 go_ret
 exact ⟨rfl, nq, rfl⟩
theorem wQ {P : Prop} (h : P := by
 have HB := Hd hq
 clear hq
 go_enter func168, ntmps168
 go_wp2_with (go_at_call 198; refine (sN _ _ _ _ _ _ _ _ hc).mono ?_; rw [HB.out]; rintro e w' ⟨rfl, rfl⟩)
 go_ret
 exact ⟨rfl, aI w⟩
 ) : P := h
theorem aFW (t h : Int) (n : Nat) (D S : Nat -> Int) (p m a b : Nat) (w : World) (hc : dR w p m t n D S) (ha : w.cell? ⟨a, 0, none⟩ = some (.pointer (some ⟨p, 0, none⟩))) (hb : w.cell? ⟨b, 0, none⟩ = some (.int .i64 h)) :
 Calls prog 168 #[.pointer (some ⟨p, 0, none⟩), .int .i64 h, .func (.func 169) #[] #[.pointer (some ⟨a, 0, none⟩), .pointer (some ⟨b, 0, none⟩)]] w
  fun e w' => e = .returned (.bool (zB t n D h)) /\ Below w.heap.size w w' := by
 have hn := hc.n1
 cases hq : dY n h
 . rw [show zB t n D h = false by unfold zB; rw [hq]; rfl]
   exact wQ
 . have hh : 0 <= h /\ h < (n : Int) := by unfold dY at hq; simpa using hq
   obtain ⟨k, rfl⟩ := Int.eq_ofNat_of_zero_le hh.1
   have hk : k < 8 := by omega
   rw [show zB t n D (k : Int) = decide (D k <= t) by unfold zB; rw [hq]; rfl]
   have HB := Hd hq
   clear hq hh
   go_enter func168, ntmps168
   go_wp2_with (go_at_call 198; refine (sN _ _ _ _ _ _ _ _ hc).mono ?_; rw [HB.out]; rintro e w' ⟨rfl, rfl⟩)
   refine (aLE t n k D S p m a b _ hc hk ha hb).mono ?_
   rintro e w' ⟨rfl, j, rfl⟩
   go_wp2_with fail
   go_ret
   exact ⟨rfl, uX (aI w) _⟩
theorem aJ6 (t h : Int) (n : Nat) (D S : Nat -> Int) (p m : Nat) (w : World) (hc : dR w p m t n D S) :
 Calls prog 99 #[.pointer (some ⟨p, 0, none⟩), .int .i64 h] w fun e w' => e = .returned (.bool (zB t n D h)) /\ Below w.heap.size w w' := by
 have hmf : ∀ (fn : Fn) (first cap : Array Value) (w : World), (Instr.makeFunc fn first cap).run prog w = .ok (.func fn first cap) w := fun _ _ _ _ => rfl
 have hc2 := hc.below (aE (aE (aI w) (.cells #[.pointer (some ⟨p, 0, none⟩)] 98)) (.cells #[.int .i64 h] 3))
 have h0 := aA (bN w (.cells #[.pointer (some ⟨p, 0, none⟩)] 98) (.cells #[.int .i64 h] 3)) 0
 have h1 := aA (bS w (.cells #[.pointer (some ⟨p, 0, none⟩)] 98) (.cells #[.int .i64 h] 3)) 0
 simp only [y0q, List.getElem?_cons_zero] at h0 h1
 have H2 := Hd hc2
 clear hc2 hc
 go_enter func99, ntmps99
 go_wp2_with fail
 refine (aFW t h n D S p m _ _ _ H2.out h0 h1).mono ?_
 rintro e w' ⟨rfl, hb⟩
 go_wp2_with fail
 go_ret
 exact ⟨rfl, tr (aE (aE (aI w) _) _) hb⟩
theorem aFX (t h : Int) (n : Nat) (D S : Nat -> Int) (p m a b : Nat) (w : World) (hc : dR w p m t n D S) (ha : w.cell? ⟨a, 0, none⟩ = some (.pointer (some ⟨p, 0, none⟩))) (hb : w.cell? ⟨b, 0, none⟩ = some (.int .i64 h)) :
 Calls prog 168 #[.pointer (some ⟨p, 0, none⟩), .int .i64 h, .func (.func 170) #[] #[.pointer (some ⟨a, 0, none⟩), .pointer (some ⟨b, 0, none⟩)]] w
  fun e w' => e = .returned (.bool (cSf n S h)) /\ Below w.heap.size w w' := by
 have hn := hc.n1
 cases hq : dY n h
 . rw [show cSf n S h = false by unfold cSf; rw [hq]; rfl]
   exact wQ
 . have hh : 0 <= h /\ h < (n : Int) := by unfold dY at hq; simpa using hq
   obtain ⟨k, rfl⟩ := Int.eq_ofNat_of_zero_le hh.1
   have hk : k < 8 := by omega
   rw [show cSf n S (k : Int) = (S k == 1) by unfold cSf; rw [hq]; rfl]
   have HB := Hd hq
   clear hq hh
   go_enter func168, ntmps168
   go_wp2_with (go_at_call 198; refine (sN _ _ _ _ _ _ _ _ hc).mono ?_; rw [HB.out]; rintro e w' ⟨rfl, rfl⟩)
   refine (aLG t n k D S p m a b _ hc hk ha hb).mono ?_
   rintro e w' ⟨rfl, j, rfl⟩
   go_wp2_with fail
   go_ret
   exact ⟨rfl, uX (aI w) _⟩
theorem aNy (t h : Int) (n : Nat) (D S : Nat -> Int) (p m : Nat) (w : World) (hc : dR w p m t n D S) :
 Calls prog 100 #[.pointer (some ⟨p, 0, none⟩), .int .i64 h] w fun e w' => e = .returned (.bool (cSf n S h)) /\ Below w.heap.size w w' := by
 have hmf : ∀ (fn : Fn) (first cap : Array Value) (w : World), (Instr.makeFunc fn first cap).run prog w = .ok (.func fn first cap) w := fun _ _ _ _ => rfl
 have hc2 := hc.below (aE (aE (aI w) (.cells #[.pointer (some ⟨p, 0, none⟩)] 98)) (.cells #[.int .i64 h] 3))
 have h0 := aA (bN w (.cells #[.pointer (some ⟨p, 0, none⟩)] 98) (.cells #[.int .i64 h] 3)) 0
 have h1 := aA (bS w (.cells #[.pointer (some ⟨p, 0, none⟩)] 98) (.cells #[.int .i64 h] 3)) 0
 simp only [y0q, List.getElem?_cons_zero] at h0 h1
 have H2 := Hd hc2
 clear hc2 hc
 go_enter func100, ntmps100
 go_wp2_with fail
 refine (aFX t h n D S p m _ _ _ H2.out h0 h1).mono ?_
 rintro e w' ⟨rfl, hb⟩
 go_wp2_with fail
 go_ret
 exact ⟨rfl, tr (aE (aE (aI w) _) _) hb⟩
def stB (a wr cl v : Int) (i : Nat) : Bool := if (aO cl i && aO v i) = true then false else if aO wr i = true then aO v i else aO a i
def stV (a wr cl v : Int) : Int := ((eW (stB a wr cl v) 32 : Nat) : Int)
def ob (f : Nat -> Bool) (k : Nat) : Int := ((eW f k : Nat) : Int)
def un (k : Nat) : Int := 2 ^ k % 4294967296
theorem gP (f : Nat -> Bool) (k : Nat) (h : k <= 32) : 0 <= ob f k /\ ob f k < 4294967296 := by
 have a := lG f k
 have b : 2 ^ k <= 2 ^ 32 := Nat.pow_le_pow_right (by decide) h
 unfold ob; omega
theorem lJ (k : Nat) : 0 <= un k /\ un k < 4294967296 := by unfold un; omega
theorem aDB (k : Nat) (h : k < 32) : un k = ((2 ^ k : Nat) : Int) := by
 have b : 2 ^ k <= 2 ^ 31 := Nat.pow_le_pow_right (by decide) (by omega)
 unfold un; rw [<- jP]
 generalize 2 ^ k = x at b ⊢
 omega
theorem aAQ (k : Nat) : un (k + 1) = 2 * un k % 4294967296 := by
 unfold un; rw [Int.pow_succ]; omega
theorem aGr (f : Nat -> Bool) (k : Nat) (h : k < 32) : ob f k + un k < 4294967296 := by
 have a := lG f k
 have b : 2 ^ (k + 1) <= 2 ^ 32 := Nat.pow_le_pow_right (by decide) (by omega)
 rw [Nat.pow_succ] at b
 rw [aDB k h]; unfold ob; omega
theorem uK (f : Nat -> Bool) (k : Nat) (h : k < 32) (hf : f k = true) : ob f (k + 1) = ob f k + un k := by
 rw [aDB k h]; unfold ob; rw [eW, if_pos hf]; push_cast; rfl
theorem yG (f : Nat -> Bool) (k : Nat) (hf : f k = false) : ob f (k + 1) = ob f k := by
 unfold ob; rw [eW, if_neg (by rw [hf]; decide)]; simp
theorem bG (n : Int) (i : Nat) (h : 0 <= n) : aO n i = n.toNat.testBit i := by
 obtain ⟨m, rfl⟩ := Int.eq_ofNat_of_zero_le h
 rw [Int.toNat_natCast, Nat.testBit_eq_decide_div_mod_eq]
 unfold aO
 have : ((m : Int) / 2 ^ i % 2) = ((m / 2 ^ i % 2 : Nat) : Int) := by push_cast; rfl
 rw [this]
 exact decide_eq_decide.2 (by omega)
theorem kC (f : Nat -> Bool) (i : Nat) : aO ((eW f 32 : Nat) : Int) i = (decide (i < 32) && f i) := by
 rw [bG _ _ (by omega), Int.toNat_natCast, gZ]
theorem aAj (n : Int) (i : Nat) (h0 : 0 <= n) (h1 : n < 4294967296) (hi : 32 <= i) : aO n i = false := by
 rw [bG n i h0]
 apply Nat.testBit_lt_two_pow
 have : 2 ^ 32 <= 2 ^ i := Nat.pow_le_pow_right (by decide) hi
 omega
theorem iR {a b : Int} (a0 : 0 <= a) (a1 : a < 4294967296) (b0 : 0 <= b) (b1 : b < 4294967296) (h : ∀ i, i < 32 -> aO a i = aO b i) : a = b := by
 have : a.toNat = b.toNat := by
  apply Nat.eq_of_testBit_eq
  intro i
  rw [<- bG a i a0, <- bG b i b0]
  by_cases hi : i < 32
  . exact h i hi
  . rw [aAj a i a0 a1 (by omega), aAj b i b0 b1 (by omega)]
 omega
theorem aB1 (a b : Int) (a0 : 0 <= a) (a1 : a < 4294967296) (b0 : 0 <= b) (b1 : b < 4294967296) : 0 <= bits BinOp.and IntKind.u32 a b /\ bits BinOp.and IntKind.u32 a b < 4294967296 := by
 rw [u32_and _ _ a0 a1 b0 b1]
 have : a.toNat &&& b.toNat <= a.toNat := Nat.and_le_left
 omega
theorem iU (a b : Int) (a0 : 0 <= a) (a1 : a < 4294967296) (b0 : 0 <= b) (b1 : b < 4294967296) : 0 <= bits BinOp.andNot IntKind.u32 a b /\ bits BinOp.andNot IntKind.u32 a b < 4294967296 := by
 rw [u32_andNot _ _ a0 a1 b0 b1]
 have : a.toNat &&& (4294967295 - b.toNat) <= a.toNat := Nat.and_le_left
 omega
theorem aCq (a b : Int) (a0 : 0 <= a) (a1 : a < 4294967296) (b0 : 0 <= b) (b1 : b < 4294967296) : bits BinOp.or IntKind.u32 a b = ((a.toNat ||| b.toNat : Nat) : Int) := by
 obtain ⟨m, rfl⟩ := Int.eq_ofNat_of_zero_le a0
 obtain ⟨n, rfl⟩ := Int.eq_ofNat_of_zero_le b0
 rw [u32_or_nat _ _ (by omega) (by omega)]; simp
theorem aEr (a b : Int) (a0 : 0 <= a) (a1 : a < 4294967296) (b0 : 0 <= b) (b1 : b < 4294967296) : 0 <= bits BinOp.or IntKind.u32 a b /\ bits BinOp.or IntKind.u32 a b < 4294967296 := by
 rw [aCq _ _ a0 a1 b0 b1]
 have : a.toNat ||| b.toNat < 2 ^ 32 := Nat.or_lt_two_pow (by omega) (by omega)
 omega
theorem aIG (a b : Int) (i : Nat) (a0 : 0 <= a) (a1 : a < 4294967296) (b0 : 0 <= b) (b1 : b < 4294967296) : aO (bits BinOp.and IntKind.u32 a b) i = (aO a i && aO b i) := by
 rw [u32_and _ _ a0 a1 b0 b1, bG _ _ (by omega), Int.toNat_natCast, Nat.testBit_and, bG _ _ a0, bG _ _ b0]
theorem aK7 (a b : Int) (i : Nat) (a0 : 0 <= a) (a1 : a < 4294967296) (b0 : 0 <= b) (b1 : b < 4294967296) : aO (bits BinOp.or IntKind.u32 a b) i = (aO a i || aO b i) := by
 rw [aCq _ _ a0 a1 b0 b1, bG _ _ (by omega), Int.toNat_natCast, Nat.testBit_or, bG _ _ a0, bG _ _ b0]
theorem kB (a b : Int) (i : Nat) (hi : i < 32) (a0 : 0 <= a) (a1 : a < 4294967296) (b0 : 0 <= b) (b1 : b < 4294967296) : aO (bits BinOp.andNot IntKind.u32 a b) i = (aO a i && !aO b i) := by
 rw [u32_andNot _ _ a0 a1 b0 b1, bG _ _ (by omega), Int.toNat_natCast, Nat.testBit_and, bG _ _ a0, bG _ _ b0,
  show 4294967295 - b.toNat = 2 ^ 32 - (b.toNat + 1) from by omega, Nat.testBit_two_pow_sub_succ (by omega)]
 simp [hi]
theorem lA (i : Nat) : aO 0 i = false := by unfold aO; simp
def lst (f : Nat -> Bool) : Nat -> Nat -> Int
 | 0, _ => -1
 | k + 1, i => if f i = true then (i : Int) else lst f k (i + 1)
def oH (f : Nat -> Bool) : Int := lst f 32 0
def yF (f : Nat -> Bool) (k : Nat) : Prop := ∀ q, q < k -> f q = false
theorem aBE (f : Nat -> Bool) : yF f 0 := fun q h => by omega
theorem uJ (f : Nat -> Bool) (k : Nat) (h : yF f k) (hf : f k = false) : yF f (k + 1) := fun q hq => by
 by_cases e : q = k
 . rw [e]; exact hf
 . exact h q (by omega)
theorem aGf (f : Nat -> Bool) (p : Nat) (hp : f p = true) : ∀ d i k, i + d = p -> d < k -> (∀ q, i <= q -> q < p -> f q = false) -> lst f k i = p := by
 intro d
 induction d with
 | zero =>
   intro i k h1 h2 _
   obtain rfl : i = p := by omega
   obtain ⟨j, rfl⟩ : ∃ j, k = j + 1 := ⟨k - 1, by omega⟩
   rw [lst, if_pos hp]
 | succ d ih =>
   intro i k h1 h2 h3
   obtain ⟨j, rfl⟩ : ∃ j, k = j + 1 := ⟨k - 1, by omega⟩
   rw [lst, if_neg (by rw [h3 i (by omega) (by omega)]; simp)]
   exact ih (i + 1) j (by omega) (by omega) fun q h4 h5 => h3 q (by omega) h5
theorem aBC (f : Nat -> Bool) : ∀ k i, (∀ q, i <= q -> q < i + k -> f q = false) -> lst f k i = -1 := by
 intro k
 induction k with
 | zero => intro i _; rfl
 | succ k ih =>
   intro i h
   rw [lst, if_neg (by rw [h i (by omega) (by omega)]; simp)]
   exact ih (i + 1) fun q h1 h2 => h q (by omega) (by omega)
theorem aCe (f : Nat -> Bool) (k : Nat) (h : yF f k) (hk : k < 32) (hf : f k = true) : oH f = k :=
 aGf f k hf k 0 32 (by omega) hk fun q _ h2 => h q h2
theorem aCd (f : Nat -> Bool) (k : Nat) (h : yF f k) (hk : 32 <= k) : oH f = -1 :=
 aBC f 32 0 fun q _ h2 => h q (by omega)
theorem aA6 (f g : Nat -> Bool) (h : ∀ i, i < 32 -> f i = g i) : oH f = oH g := by
 have key : ∀ k i, i + k <= 32 -> lst f k i = lst g k i := by
  intro k
  induction k with
  | zero => intro i _; rfl
  | succ k ih => intro i hi; rw [lst, lst, h i (by omega), ih (i + 1) (by omega)]
 exact key 32 0 (by omega)
theorem aEh (f : Nat -> Bool) (i : Nat) (hi : i < 32) (h : f i = true) : 0 <= oH f := by
 have key : ∀ k j, j <= i -> i < j + k -> 0 <= lst f k j := by
  intro k
  induction k with
  | zero => intro j h1 h2; omega
  | succ k ih =>
    intro j h1 h2
    rw [lst]
    split
    . omega
    . rename_i hj
      refine ih (j + 1) ?_ (by omega)
      by_cases e : j = i
      . subst e; exact absurd h hj
      . omega
 exact key 32 0 (by omega) (by omega)
theorem aGV (f : Nat -> Bool) (h : ∀ i, i < 32 -> f i = false) : oH f = -1 := aBC f 32 0 fun q _ h2 => h q (by omega)
def lm (h m : Int) (i : Nat) : Bool := aO h i && aO m i
def aGy (h m : Int) : Bool := decide (0 <= oH (lm h m))
theorem aGz (h m : Int) (h0 : 0 <= h) (h1 : h < 4294967296) (m0 : 0 <= m) (m1 : m < 4294967296) : (!(h == bits BinOp.andNot IntKind.u32 h m)) = aGy h m := by
 have hb := iU h m h0 h1 m0 m1
 unfold aGy
 by_cases e : ∀ i, i < 32 -> lm h m i = false
 . have : h = bits BinOp.andNot IntKind.u32 h m := iR h0 h1 hb.1 hb.2 fun i hi => by
    rw [kB h m i hi h0 h1 m0 m1]
    have := e i hi
    unfold lm at this
    cases hh : aO h i
    . rfl
    . rw [hh] at this; simp at this; rw [this]; rfl
   rw [beq_iff_eq.2 this, aGV _ e]
   rfl
 . have : ¬ h = bits BinOp.andNot IntKind.u32 h m := fun e2 => e fun i hi => by
    have g := kB h m i hi h0 h1 m0 m1
    rw [<- e2] at g
    unfold lm
    cases hh : aO h i
    . rfl
    . rw [hh] at g; simp at g; rw [g]; rfl
   obtain ⟨i, hi⟩ := Classical.not_forall.1 e
   obtain ⟨hi, hl⟩ := Classical.not_imp.1 hi
   rw [beq_eq_false_iff_ne.2 this, decide_eq_true (aEh _ i hi (by simpa using hl))]
   rfl
theorem vL (n : Int) (i : Nat) (h : 0 <= n) : ((n.toNat / 2 ^ i % 2 : Nat) : Int) = n / 2 ^ i % 2 := by
 have h1 : n = ((n.toNat : Nat) : Int) := by omega
 have h2 : (2 : Int) ^ i = ((2 ^ i : Nat) : Int) := by push_cast; rfl
 conv => rhs; rw [h1, h2]
 rw [<- Int.natCast_ediv]; omega
theorem aEU (n : Int) (k : Nat) (h0 : 0 <= n) (hk : k < 32) : (field n (k : Int) 1 == 1) = aO n k := by
 unfold field aO
 rw [if_pos (by unfold inw; simp; omega), Int.toNat_natCast]
 have h : ((n.toNat / 2 ^ k % 2 ^ min (1 : Int).toNat 32 : Nat) : Int) = n / 2 ^ k % 2 := by
  have : min (1 : Int).toNat 32 = 1 := by decide
  rw [this, Nat.pow_one]; exact vL n k h0
 rw [h]
 by_cases e : n / 2 ^ k % 2 = 1
 . rw [e]; rfl
 . rw [beq_eq_false_iff_ne.2 e, decide_eq_false e]
def tk (b : Bool) : Int := cond b 1 0
theorem mJ (n : Int) (k : Nat) (b : Bool) (hk : k < 32) (h0 : 0 <= n) (i : Nat) (hi : i < 32) : aO (put n (k : Int) 1 (tk b)) i = if i = k then b else aO n i := by
 unfold put
 rw [if_pos (by unfold inw; simp; omega), kC, decide_eq_true hi, Bool.true_and]
 unfold kG
 rw [Int.toNat_natCast, show (1 : Int).toNat = 1 from rfl]
 by_cases e : i = k
 . subst e
   rw [if_pos (by omega), if_pos rfl, Nat.sub_self]
   cases b <;> rfl
 . rw [if_neg (by omega), if_neg e, bG n i h0]
theorem pO (n low width : Int) (h0 : 0 <= n) (h1 : n < 4294967296) : 0 <= field n low width /\ field n low width < 4294967296 := by
 unfold field; split
 . have a : n.toNat / 2 ^ low.toNat % 2 ^ min width.toNat 32 <= n.toNat := Nat.le_trans (Nat.mod_le _ _) (Nat.div_le_self _ _)
   omega
 . omega
theorem iQ (n low width v : Int) (h0 : 0 <= n) (h1 : n < 4294967296) : 0 <= put n low width v /\ put n low width v < 4294967296 := by
 unfold put; split
 . have := lG (kG n low width v) 32
   have e32 : (2 : Nat) ^ 32 = 4294967296 := by decide
   omega
 . omega
end Go.Proofs.YtealhichdbimlaaGreat.B
