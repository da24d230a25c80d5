/- The clint's block and map; layout, New, Reset, and what is asked of one. -/
import Derived.Test.YtfkkimbdjobpmaaClintP
import Derived.Test.YtfkkimbdjobpmaaBCode
import Derived.Test.YtfkkimbdjobpmaaBField
import Derived.Test.YtfkkimbdjobpmaaTail
import Derived.Deep.Cut
namespace Go.Proofs.Ytfkkimbdjobpmaa.B
set_option linter.unusedVariables false
set_option linter.unusedSimpArgs false
open Go.ChangeShapes Go.WideShapes Go.RowKit Go.Sort Go.MapKept
/-- A clint's cells: the time, harts, comparators, bits, the map. -/
def ccl (t : Int) (n : Nat) (D S : Nat → Int) (m : Nat) : List Value := [.int .u64 t, .int .i64 n] ++ (il .u64 D 8 ++ (il .u32 S 8 ++ [.map (some m)]))
theorem ccl_len (t : Int) (n : Nat) (D S : Nat → Int) (m : Nat) : (ccl t n D S m).length = 19 := by simp [ccl, il_len]
theorem ccl_D (t : Int) (n : Nat) (D S : Nat → Int) (m i : Nat) (h : i < 8) : (ccl t n D S m)[2 + i]? = some (.int .u64 (D i)) := by
  unfold ccl; rw [app_get _ _ 2 i (by rfl), app_left _ _ _ (by rw [il_len]; exact h), il_get _ _ _ _ h]
theorem ccl_S (t : Int) (n : Nat) (D S : Nat → Int) (m i : Nat) (h : i < 8) : (ccl t n D S m)[10 + i]? = some (.int .u32 (S i)) := by
  unfold ccl; rw [show 10 + i = 2 + (8 + i) by omega, app_get _ _ 2 _ (by rfl), app_get _ _ 8 i (by rw [il_len]), app_left _ _ _ (by rw [il_len]; exact h), il_get _ _ _ _ h]
theorem ccl_M (t : Int) (n : Nat) (D S : Nat → Int) (m : Nat) : (ccl t n D S m)[18]? = some (.map (some m)) := by
  unfold ccl; rw [show 18 = 2 + (8 + (8 + 0)) by omega, app_get _ _ 2 _ (by rfl), app_get _ _ 8 _ (by rw [il_len]), app_get _ _ 8 _ (by rw [il_len])]; rfl
theorem ccl_setT (t : Int) (n : Nat) (D S : Nat → Int) (m : Nat) (v : Int) : (ccl t n D S m).set 0 (.int .u64 v) = ccl v n D S m := rfl
theorem ccl_setD (t : Int) (n : Nat) (D S : Nat → Int) (m i : Nat) (v : Int) (h : i < 8) : (ccl t n D S m).set (2 + i) (.int .u64 v) = ccl t n (upd D i v) S m := by
  unfold ccl; rw [app_set _ _ 2 i _ (by rfl), app_set_left _ _ _ _ (by rw [il_len]; exact h), il_set]
theorem ccl_setS (t : Int) (n : Nat) (D S : Nat → Int) (m i : Nat) (v : Int) (h : i < 8) : (ccl t n D S m).set (10 + i) (.int .u32 v) = ccl t n D (upd S i v) m := by
  unfold ccl; rw [show 10 + i = 2 + (8 + i) by omega, app_set _ _ 2 _ _ (by rfl), app_set _ _ 8 i _ (by rw [il_len]), app_set_left _ _ _ _ (by rw [il_len]; exact h), il_set]
theorem ccl_setM (t : Int) (n : Nat) (D S : Nat → Int) (m k : Nat) : (ccl t n D S m).set 18 (.map (some k)) = ccl t n D S k := by
  unfold ccl; rw [show 18 = 2 + (8 + (8 + 0)) by omega, app_set _ _ 2 _ _ (by rfl), app_set _ _ 8 _ _ (by rw [il_len]), app_set _ _ 8 _ _ (by rw [il_len])]; rfl
theorem ccl_one (t : Int) (n : Nat) (D S : Nat → Int) (m : Nat) : ∀ v ∈ ccl t n D S m, v.oneCell' = true := by
  intro v h
  unfold ccl at h
  simp only [List.mem_append, List.mem_cons, List.not_mem_nil, or_false] at h
  rcases h with (rfl | rfl) | h | h | rfl
  · rfl
  · rfl
  · exact il_one _ _ _ v h
  · exact il_one _ _ _ v h
  · rfl
/-- Block p is a clint's, whose map is block m. -/
structure CAt (w : World) (p m : Nat) (t : Int) (n : Nat) (D S : Nat → Int) : Prop where
  cell : w.heap[p]? = some (.cells (ccl t n D S m).toArray 60 (0, 0))
  map : mapP w ek ok32 m (lay n)
  t0 : 0 ≤ t
  t1 : t < 18446744073709551616
  n0 : 1 ≤ n
  n1 : n ≤ 8
  d : okD D
  s : okS S
section
variable {w w' : World} {p m n : Nat} {t : Int} {D S : Nat → Int}
theorem CAt.ltp (h : CAt w p m t n D S) : p < w.heap.size := lt_of_block h.cell
theorem CAt.ltm (h : CAt w p m t n D S) : m < w.heap.size := h.map.lt
theorem CAt.ne (h : CAt w p m t n D S) : p ≠ m := fun e => by obtain ⟨_, _, hb, _⟩ := h.map; rw [← e, h.cell] at hb; cases hb
theorem CAt.kept (h : CAt w p m t n D S) (h1 : w'.heap[p]? = w.heap[p]?) (h2 : w'.heap[m]? = w.heap[m]?) : CAt w' p m t n D S :=
  ⟨h1.trans h.cell, h.map.kept h2, h.t0, h.t1, h.n0, h.n1, h.d, h.s⟩
theorem CAt.off {X : Nat → Prop} (h : CAt w p m t n D S) (ho : Off X w w') (h1 : ¬ X p) (h2 : ¬ X m) : CAt w' p m t n D S :=
  h.kept (ho.block p h.ltp h1) (ho.block m h.ltm h2)
theorem CAt.below (h : CAt w p m t n D S) (ho : Below w.heap.size w w') : CAt w' p m t n D S := h.kept (ho.block p h.ltp) (ho.block m h.ltm)
theorem CAt.c0 (h : CAt w p m t n D S) : w.cell? ⟨p, 0, none⟩ = some (.int .u64 t) := by have := blk_cell h.cell 0; simpa [ccl] using this
theorem CAt.c1 (h : CAt w p m t n D S) : w.cell? ⟨p, 1, none⟩ = some (.int .i64 n) := by have := blk_cell h.cell 1; simpa [ccl] using this
theorem CAt.cD (h : CAt w p m t n D S) (i : Nat) (hi : i < 8) : w.cell? ⟨p, 2 + i, none⟩ = some (.int .u64 (D i)) := by
  have := blk_cell h.cell (2 + i); rw [this, List.getElem?_toArray]; exact ccl_D _ _ _ _ _ _ hi
theorem CAt.cS (h : CAt w p m t n D S) (i : Nat) (hi : i < 8) : w.cell? ⟨p, 10 + i, none⟩ = some (.int .u32 (S i)) := by
  have := blk_cell h.cell (10 + i); rw [this, List.getElem?_toArray]; exact ccl_S _ _ _ _ _ _ hi
theorem CAt.cM (h : CAt w p m t n D S) : w.cell? ⟨p, 18, none⟩ = some (.map (some m)) := by
  have := blk_cell h.cell 18; rw [this, List.getElem?_toArray]; exact ccl_M _ _ _ _ _
theorem CAt.free (h : CAt w p m t n D S) (j : Nat) : w.frozen? ⟨p, j, none⟩ = false := blk_free h.cell j
theorem CAt.set (h : CAt w p m t n D S) (j : Nat) (v : Value) {t' : Int} {D' S' : Nat → Int} (he : (ccl t n D S m).set j v = ccl t' n D' S' m) (ht : 0 ≤ t' ∧ t' < 18446744073709551616) (hd : okD D') (hs : okS S') :
    CAt (w.setCell ⟨p, j, none⟩ v) p m t' n D' S' :=
  ⟨by rw [blk_set h.cell, ← he]; simp, h.map.kept (Below.heap_setCell w ⟨p, j, none⟩ v m (fun e => h.ne e.symm)), ht.1, ht.2, h.n0, h.n1, hd, hs⟩
theorem CAt.setT (h : CAt w p m t n D S) {v : Int} (v0 : 0 ≤ v) (v1 : v < 18446744073709551616) : CAt (w.setCell ⟨p, 0, none⟩ (.int .u64 v)) p m v n D S :=
  h.set 0 _ (ccl_setT _ _ _ _ _ _) ⟨v0, v1⟩ h.d h.s
theorem CAt.setD (h : CAt w p m t n D S) (i : Nat) {v : Int} (hi : i < 8) (v0 : 0 ≤ v) (v1 : v < 18446744073709551616) : CAt (w.setCell ⟨p, 2 + i, none⟩ (.int .u64 v)) p m t n (upd D i v) S :=
  h.set _ _ (ccl_setD _ _ _ _ _ _ _ hi) ⟨h.t0, h.t1⟩ (h.d.upd i v0 v1) h.s
theorem CAt.setS (h : CAt w p m t n D S) (i : Nat) {v : Int} (hi : i < 8) (v0 : 0 ≤ v) (v1 : v < 4294967296) : CAt (w.setCell ⟨p, 10 + i, none⟩ (.int .u32 v)) p m t n D (upd S i v) :=
  h.set _ _ (ccl_setS _ _ _ _ _ _ _ hi) ⟨h.t0, h.t1⟩ h.d (h.s.upd i v0 v1)
end
theorem off_set (w : World) (p j : Nat) (v : Value) : Off (· = p) w (w.setCell ⟨p, j, none⟩ v) := Off.ofSetCell w ⟨p, j, none⟩ v rfl
theorem below_setBlock {B : Nat} {w w' : World} (h : Below B w w') (b : Nat) (o : Obj) (hb : B ≤ b) : Below B w (Go.ChangeMaps.setBlock w' b o) :=
  ⟨h.os, h.tape, h.output, by simpa [Go.ChangeMaps.setBlock] using h.size, fun k hk => by
    have : b ≠ k := by omega
    simp only [Go.ChangeMaps.setBlock, Array.getElem?_setIfInBounds, if_neg this]; exact h.block k hk⟩
theorem Off.toBelow {B : Nat} {w a b : World} (h : Below B w a) {X : Nat → Prop} (ho : Off X a b) (hx : ∀ k, k < B → ¬ X k) (hB : B ≤ w.heap.size) : Below B w b :=
  h.trans (ho.below hx (Nat.le_trans hB h.size))
/-! layout -/
theorem lay0 (w : World) : ∃ es c w', (Instr.mapUpdate 56 (.map (some w.heap.size)) (ek 49144) (regV 3 0)).run Try.prog (w.alloc (.map #[] 0)).drew = .ok () w' ∧
    (Instr.mapUpdate 56 (.map (some w.heap.size)) (ek 49148) (regV 4 0)).run Try.prog w' = .ok () es ∧ mapP es ek ok32 w.heap.size (lay 0) ∧ Below w.heap.size w es ∧ c = () := by
  have M0 : mapP (w.alloc (.map #[] 0)).drew ek ok32 w.heap.size [] := (mapP_made w ek ok32).kept rfl
  obtain ⟨e1, c1, h1, m1⟩ := M0.update cplaceKey Try.underlying56 49144 (regV 3 0) ⟨by omega, by omega⟩
  obtain ⟨e2, c2, h2, m2⟩ := m1.update cplaceKey Try.underlying56 49148 (regV 4 0) ⟨by omega, by omega⟩
  refine ⟨_, (), _, h1, h2, m2.perm ?_, ?_, rfl⟩
  · simp [putM, lay]
  · exact below_setBlock (below_setBlock (trD (trA (tr0 w) _)) _ _ (Nat.le_refl _)) _ _ (Nat.le_refl _)
theorem lay0' (w : World) : ∃ es c w', (Instr.mapUpdate 56 (.map (some w.heap.size)) (ek 49148) (regV 4 0)).run Try.prog (w.alloc (.map #[] 0)).drew = .ok () w' ∧
    (Instr.mapUpdate 56 (.map (some w.heap.size)) (ek 49144) (regV 3 0)).run Try.prog w' = .ok () es ∧ mapP es ek ok32 w.heap.size (lay 0) ∧ Below w.heap.size w es ∧ c = () := by
  have M0 : mapP (w.alloc (.map #[] 0)).drew ek ok32 w.heap.size [] := (mapP_made w ek ok32).kept rfl
  obtain ⟨e1, c1, h1, m1⟩ := M0.update cplaceKey Try.underlying56 49148 (regV 4 0) ⟨by omega, by omega⟩
  obtain ⟨e2, c2, h2, m2⟩ := m1.update cplaceKey Try.underlying56 49144 (regV 3 0) ⟨by omega, by omega⟩
  refine ⟨_, (), _, h1, h2, m2.perm ?_, ?_, rfl⟩
  · simp only [putM, lay]; exact List.Perm.swap _ _ _
  · exact below_setBlock (below_setBlock (trD (trA (tr0 w) _)) _ _ (Nat.le_refl _)) _ _ (Nat.le_refl _)
theorem lay_put1 (k : Nat) (h : k ≤ 7) : putM (4 * (k : Int)) (regV 0 k) (lay k) = (4 * (k : Int), regV 0 k) :: lay k :=
  putM_new fun p hp => by rcases lay_key k p hp with g | g | ⟨j, hj, g | g | g⟩ <;> omega
theorem lay_put2 (k : Nat) (h : k ≤ 7) : putM (16384 + 8 * (k : Int)) (regV 1 k) ((4 * (k : Int), regV 0 k) :: lay k) = (16384 + 8 * (k : Int), regV 1 k) :: (4 * (k : Int), regV 0 k) :: lay k :=
  putM_new fun p hp => by
    rcases List.mem_cons.1 hp with rfl | hp
    · show (4 * (k : Int)) ≠ _; omega
    · rcases lay_key k p hp with g | g | ⟨j, hj, g | g | g⟩ <;> omega
theorem lay_put3 (k : Nat) (h : k ≤ 7) : putM (16384 + 8 * (k : Int) + 4) (regV 2 k) ((16384 + 8 * (k : Int), regV 1 k) :: (4 * (k : Int), regV 0 k) :: lay k) = lay (k + 1) :=
  putM_new fun p hp => by
    rcases List.mem_cons.1 hp with rfl | hp
    · show (16384 + 8 * (k : Int)) ≠ _; omega
    · rcases List.mem_cons.1 hp with rfl | hp
      · show (4 * (k : Int)) ≠ _; omega
      · rcases lay_key k p hp with g | g | ⟨j, hj, g | g | g⟩ <;> omega
def LayAt (w w' : World) (n : Nat) : Prop := mapP w' ek ok32 w.heap.size (lay n) ∧ Below w.heap.size w w'
set_option maxRecDepth 100000 in
theorem cLayout (n : Nat) (w : World) (hn : n ≤ 8) :
    Calls Try.prog 24 #[.int .i64 n] w fun e w' => e = .returned (.map (some w.heap.size)) ∧ LayAt w w' n := by
  have hmm := @run_makeMap Try.prog
  obtain ⟨X, _, V, hx1, hx2, hX, hbX, _⟩ := lay0 w
  obtain ⟨Y, _, Z, hy1, hy2, hY, hbY, _⟩ := lay0' w
  have HX := Lib.hid hX
  have HY := Lib.hid hY
  have HXb := Lib.hid hbX
  have HYb := Lib.hid hbY
  clear hX hY hbX hbY
  unfold ek regV at hx1 hx2 hy1 hy2
  go_enter Try.func24, Try.ntmps24
  go_upto_region 1 with (fail)
  refine wp_asThen fun K1 hK1 => ?_
  go_cut [3] from 12 (fun v w' => v = .map (some w.heap.size) ∧ LayAt w w' 0)
  case first =>
    go_region
    all_goals
      go_wp2_with fail
      go_meet
      case rel => exact ⟨rfl, by first | exact ⟨HX.out, HXb.out⟩ | exact ⟨HY.out, HYb.out⟩⟩
  case rest =>
    obtain ⟨rfl, hcut⟩ := hcut
    refine hK1 _ _ ?_
    clear hK1 hx1 hx2 hy1 hy2 HX HY HXb HYb
    go_wp2_with fail
    go_loopw [14] (fun i wr => ∃ k : Nat, k ≤ n ∧ i = .int .i64 k ∧ LayAt w wr k) (fun i _ => n - (intOf i).toNat)
    case atStart => exact ⟨0, by omega, rfl, hcut⟩
    case round =>
      clear hcut
      obtain ⟨k, hk, rfl, hM, hb⟩ := hrel
      by_cases hlt : k < n
      · have e1 : (8 * (k : Int)) % 4294967296 = 8 * k := by omega
        have g1 := lay_put1 k (by omega)
        have g2 := lay_put2 k (by omega)
        have g3 := lay_put3 k (by omega)
        have G1 := Lib.hid g1
        have G2 := Lib.hid g2
        have G3 := Lib.hid g3
        clear g1 g2 g3
        go_wp2_with (first
          | (at_mapUpdate; refine wpList_put cplaceKey rfl _ _ _ _ rfl Try.underlying56 rfl hM (4 * (k : Int)) (regV 0 k) rfl rfl ⟨by omega, by omega⟩ ?_; intro w3 hM3 ho3; rw [G1.out] at hM3)
          | (at_mapUpdate; refine wpList_put cplaceKey rfl _ _ _ _ rfl Try.underlying56 rfl hM3 (16384 + 8 * (k : Int)) (regV 1 k) rfl rfl ⟨by omega, by omega⟩ ?_; intro w4 hM4 ho4; rw [G2.out] at hM4)
          | (at_mapUpdate; refine wpList_put cplaceKey rfl _ _ _ _ rfl Try.underlying56 rfl hM4 (16384 + 8 * (k : Int) + 4) (regV 2 k) rfl rfl ⟨by omega, by omega⟩ ?_; intro w5 hM5 ho5; rw [G3.out] at hM5))
        go_roundw
        case rel => exact ⟨k + 1, by omega, by go_num, hM5, Off.toBelow (Off.toBelow (Off.toBelow hb ho3 (fun _ h => by omega) (Nat.le_refl _)) ho4 (fun _ h => by omega) (Nat.le_refl _)) ho5 (fun _ h => by omega) (Nat.le_refl _)⟩
        case measure => simp [intOf]; omega
      · obtain rfl : k = n := by omega
        go_wp2_with fail
        go_ret
        exact ⟨rfl, hM, hb⟩
end Go.Proofs.Ytfkkimbdjobpmaa.B
