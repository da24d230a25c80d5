/- Several texts in one: The document's own answers of layer 5: a clint as two words a comparator, by value. The document's own answers of layer 5: .. -/
import Derived.Test.YtcgmnjajodegmaaGreatZTaa
import Derived.Test.YtcgmnjajodegmaaGreatZTab
import Derived.Test.YtcgmnjajodegmaaGreatZTac
import Derived.Test.YtcgmnjajodegmaaGreatZTag
import Derived.Test.YtcgmnjajodegmaaGreatZTai
import Derived.Test.YtcgmnjajodegmaaGreatZTak
import Derived.Deep.Cut
set_option linter.unusedVariables false
set_option linter.unusedSimpArgs false
namespace Go.Proofs.YtcgmnjajodegmaaGreat.B
open Go.ChangeShapes Go.WideShapes Go.RowKit Go.Sort
theorem iC : (Tryz.prog.info? 36).map (·.size) = some 26 := by kernel_rfl
def rcr (t : Int) (n : Nat) (A B S : Nat -> Int) : List Value := [.int .u64 t] ++ (il .u32 A 8 ++ (il .u32 B 8 ++ (il .u32 S 8 ++ [.int .i64 n])))
section
variable (t : Int) (n : Nat) (A B S : Nat -> Int)
theorem rcr_len : (rcr t n A B S).length = 26 := by simp [rcr, il_len]
theorem rcr_one : ∀ v ∈ rcr t n A B S, v.oneCell' = true := by
 intro v h
 unfold rcr at h
 simp only [List.mem_append, List.mem_cons, List.not_mem_nil, or_false] at h
 rcases h with rfl | h | h | h | rfl
 . rfl
 . exact il_one _ _ _ v h
 . exact il_one _ _ _ v h
 . exact il_one _ _ _ v h
 . rfl
theorem rcr_L (i : Nat) (h : i < 8) : (rcr t n A B S)[1 + i]? = some (.int .u32 (A i)) := by
 unfold rcr; rw [app_get _ _ 1 i (by rfl), app_left _ _ _ (by rw [il_len]; exact h), il_get _ _ _ _ h]
theorem rcr_H (i : Nat) (h : i < 8) : (rcr t n A B S)[9 + i]? = some (.int .u32 (B i)) := by
 unfold rcr; rw [show 9 + i = 1 + (8 + i) by omega, app_get _ _ 1 _ (by rfl), app_get _ _ 8 i (by rw [il_len]), app_left _ _ _ (by rw [il_len]; exact h), il_get _ _ _ _ h]
theorem rcr_S (i : Nat) (h : i < 8) : (rcr t n A B S)[17 + i]? = some (.int .u32 (S i)) := by
 unfold rcr; rw [show 17 + i = 1 + (8 + (8 + i)) by omega, app_get _ _ 1 _ (by rfl), app_get _ _ 8 _ (by rw [il_len]), app_get _ _ 8 i (by rw [il_len]), app_left _ _ _ (by rw [il_len]; exact h), il_get _ _ _ _ h]
theorem rcr_N : (rcr t n A B S)[25]? = some (.int .i64 n) := by
 unfold rcr; rw [show 25 = 1 + (8 + (8 + (8 + 0))) by omega, app_get _ _ 1 _ (by rfl), app_get _ _ 8 _ (by rw [il_len]), app_get _ _ 8 _ (by rw [il_len]), app_get _ _ 8 _ (by rw [il_len])]; rfl
theorem rcr_setT (v : Int) : (rcr t n A B S).set 0 (.int .u64 v) = rcr v n A B S := rfl
theorem rcr_setL (i : Nat) (v : Int) (h : i < 8) : (rcr t n A B S).set (1 + i) (.int .u32 v) = rcr t n (upd A i v) B S := by
 unfold rcr; rw [app_set _ _ 1 i _ (by rfl), app_set_left _ _ _ _ (by rw [il_len]; exact h), il_set]
theorem rcr_setH (i : Nat) (v : Int) (h : i < 8) : (rcr t n A B S).set (9 + i) (.int .u32 v) = rcr t n A (upd B i v) S := by
 unfold rcr; rw [show 9 + i = 1 + (8 + i) by omega, app_set _ _ 1 _ _ (by rfl), app_set _ _ 8 i _ (by rw [il_len]), app_set_left _ _ _ _ (by rw [il_len]; exact h), il_set]
theorem rcr_setS (i : Nat) (v : Int) (h : i < 8) : (rcr t n A B S).set (17 + i) (.int .u32 v) = rcr t n A B (upd S i v) := by
 unfold rcr; rw [show 17 + i = 1 + (8 + (8 + i)) by omega, app_set _ _ 1 _ _ (by rfl), app_set _ _ 8 _ _ (by rw [il_len]), app_set _ _ 8 i _ (by rw [il_len]), app_set_left _ _ _ _ (by rw [il_len]; exact h), il_set]
end
theorem rcr_congr {t : Int} {n : Nat} {A B S A' B' S' : Nat -> Int} (ha : ∀ i, i < 8 -> A i = A' i) (hb : ∀ i, i < 8 -> B i = B' i) (hs : ∀ i, i < 8 -> S i = S' i) : rcr t n A B S = rcr t n A' B' S' := by
 unfold rcr; rw [il_congr _ _ _ _ ha, il_congr _ _ _ _ hb, il_congr _ _ _ _ hs]
def rcl (t : Int) (n : Nat) (D S : Nat -> Int) : List Value := rcr t n (fun i => lo (D i)) (fun i => hi (D i)) S
theorem rcl_len (t : Int) (n : Nat) (D S : Nat -> Int) : (rcl t n D S).length = 26 := rcr_len _ _ _ _ _
theorem rcl_one (t : Int) (n : Nat) (D S : Nat -> Int) : ∀ v ∈ rcl t n D S, v.oneCell' = true := rcr_one _ _ _ _ _
def RcAt (w : World) (b : Nat) (t : Int) (n : Nat) (A B S : Nat -> Int) : Prop := w.heap[b]? = some (.cells (rcr t n A B S).toArray 36 (0, 0))
section
variable {w w' : World} {b n : Nat} {t : Int} {A B S : Nat -> Int}
theorem RcAt.lt (h : RcAt w b t n A B S) : b < w.heap.size := lt_of_block h
theorem RcAt.below (h : RcAt w b t n A B S) (hb : Below w.heap.size w w') : RcAt w' b t n A B S := blk_below hb h h.lt
theorem RcAt.free (h : RcAt w b t n A B S) (j : Nat) : w.frozen? ⟨b, j, none⟩ = false := blk_free h j
theorem RcAt.cT (h : RcAt w b t n A B S) : w.cell? ⟨b, 0, none⟩ = some (.int .u64 t) := by rw [blk_cell h 0]; rfl
theorem RcAt.cL (h : RcAt w b t n A B S) (i : Nat) (hi : i < 8) : w.cell? ⟨b, 1 + i, none⟩ = some (.int .u32 (A i)) := by rw [blk_cell h (1 + i), List.getElem?_toArray]; exact rcr_L _ _ _ _ _ _ hi
theorem RcAt.cH (h : RcAt w b t n A B S) (i : Nat) (hi : i < 8) : w.cell? ⟨b, 9 + i, none⟩ = some (.int .u32 (B i)) := by rw [blk_cell h (9 + i), List.getElem?_toArray]; exact rcr_H _ _ _ _ _ _ hi
theorem RcAt.cS (h : RcAt w b t n A B S) (i : Nat) (hi : i < 8) : w.cell? ⟨b, 17 + i, none⟩ = some (.int .u32 (S i)) := by rw [blk_cell h (17 + i), List.getElem?_toArray]; exact rcr_S _ _ _ _ _ _ hi
theorem RcAt.cN (h : RcAt w b t n A B S) : w.cell? ⟨b, 25, none⟩ = some (.int .i64 n) := by rw [blk_cell h 25, List.getElem?_toArray]; exact rcr_N _ _ _ _ _
theorem RcAt.set {t' : Int} {A' B' S' : Nat -> Int} (h : RcAt w b t n A B S) (j : Nat) (v : Value) (he : (rcr t n A B S).set j v = rcr t' n A' B' S') : RcAt (w.setCell ⟨b, j, none⟩ v) b t' n A' B' S' := by
 unfold RcAt; rw [blk_set h, <- he]; simp
theorem RcAt.setT (h : RcAt w b t n A B S) (v : Int) : RcAt (w.setCell ⟨b, 0, none⟩ (.int .u64 v)) b v n A B S := h.set _ _ (rcr_setT _ _ _ _ _ _)
theorem RcAt.setL (h : RcAt w b t n A B S) (i : Nat) (v : Int) (hi : i < 8) : RcAt (w.setCell ⟨b, 1 + i, none⟩ (.int .u32 v)) b t n (upd A i v) B S := h.set _ _ (rcr_setL _ _ _ _ _ _ _ hi)
theorem RcAt.setH (h : RcAt w b t n A B S) (i : Nat) (v : Int) (hi : i < 8) : RcAt (w.setCell ⟨b, 9 + i, none⟩ (.int .u32 v)) b t n A (upd B i v) S := h.set _ _ (rcr_setH _ _ _ _ _ _ _ hi)
theorem RcAt.setS (h : RcAt w b t n A B S) (i : Nat) (v : Int) (hi : i < 8) : RcAt (w.setCell ⟨b, 17 + i, none⟩ (.int .u32 v)) b t n A B (upd S i v) := h.set _ _ (rcr_setS _ _ _ _ _ _ _ hi)
theorem RcAt.other (h : RcAt w b t n A B S) (k j : Nat) (v : Value) (hne : b ≠ k) : RcAt (w.setCell ⟨k, j, none⟩ v) b t n A B S := blk_else h k j v hne
end
section
variable {ops : Array Oper} {rest : List Oper} {o : Oper} {a : Act} {w : World} {Q : Exit -> Act -> World -> Prop}
theorem loadC (hgd : o.guard = none) (x : Operand) (ho : o.op = .load 36 x) {b : Nat} (hx : a.eval x = .pointer (some ⟨b, 0, none⟩)) {t : Int} {n : Nat} {A B S : Nat -> Int} (hg : RcAt w b t n A B S)
 (h : wpList Tryz.prog ops Q rest (a.put o.dst (.agg (rcr t n A B S).toArray)) w) : wpList Tryz.prog ops Q (o :: rest) a w :=
 wpList_load_part hgd _ x ho b 0 hx _ (rcr t n A B S) hg Tryz.underlying36 rfl (by rw [rcr_len]; exact iC) (part_all _) h
theorem storeC (hgd : o.guard = none) (x y : Operand) (ho : o.op = .store 36 x y) {b : Nat} (hx : a.eval x = .pointer (some ⟨b, 0, none⟩)) {t : Int} {n : Nat} {A B S : Nat -> Int} (hy : a.eval y = .agg (rcr t n A B S).toArray) {cs : Array Value} {ty : TypeId}
 (hg : w.heap[b]? = some (.cells cs ty (0, 0))) (hl : cs.size = 26)
 (h : wpList Tryz.prog ops Q rest (a.put o.dst undef) (w.setRow b (rcr t n A B S).toArray)) : wpList Tryz.prog ops Q (o :: rest) a w := by
 refine wpList_store_part hgd _ x y ho b 0 hx (rcr t n A B S) hy hg (by rw [rcr_len]; exact iC) (by rw [rcr_len]; omega) (rcr_one _ _ _ _ _) ?_
 rw [spliced_all _ _ (by rw [rcr_len, hl])]
 exact h
theorem qloadC {C : World -> Prop} {K : Act -> Prop} (x : Operand) (ho : o.op = .load 36 x) {b : Nat} (hx : a.eval x = .pointer (some ⟨b, 0, none⟩)) {t : Int} {n : Nat} {A B S : Nat -> Int} (hg : ∀ w, C w -> RcAt w b t n A B S)
 (h : K (a.put o.dst (.agg (rcr t n A B S).toArray))) : o.quiet Tryz.prog a C K :=
 quiet_load_part _ x ho b 0 hx _ (rcr t n A B S) (fun w hw => hg w hw) Tryz.underlying36 rfl (by rw [rcr_len]; exact iC) (part_all _) h
end
theorem RcAt.row {w : World} {b : Nat} {cs : Array Value} {t : Int} {n : Nat} {A B S : Nat -> Int} (hg : w.heap[b]? = some (.cells cs 36 (0, 0))) : RcAt (w.setRow b (rcr t n A B S).toArray) b t n A B S := row_set _ hg
theorem resC {fn : Func} {p : Tmp} (h : fn.results = #[.cell p 36]) (tmps : Array Value) (w : World) {b : Nat} {t : Int} {n : Nat} {A B S : Nat -> Int} (hp : tmps[p]? = some (.pointer (some ⟨b, 0, none⟩))) (hg : RcAt w b t n A B S) :
 (results fn tmps).run Tryz.prog w = .ok (.agg (rcr t n A B S).toArray) w :=
 results_cell_one h tmps w b 0 _ (rcr t n A B S) hp hg Tryz.underlying36 rfl (by rw [rcr_len]; exact iC) (part_all _)
theorem resC2 {fn : Func} {p q : Tmp} (h : fn.results = #[.cell p 36, .tmp q]) (tmps : Array Value) (w : World) {b : Nat} {t : Int} {n : Nat} {A B S : Nat -> Int} (y : Value) (hp : tmps[p]? = some (.pointer (some ⟨b, 0, none⟩))) (hq : tmps[q]? = some y) (hg : RcAt w b t n A B S) :
 (results fn tmps).run Tryz.prog w = .ok (.tuple #[.agg (rcr t n A B S).toArray, y]) w :=
 results_cell_slot h tmps w b 0 _ (rcr t n A B S) y hp hq hg Tryz.underlying36 rfl (by rw [rcr_len]; exact iC) (part_all _)
def zC : Obj := .cells #[.int .u64 0, .int .u32 0, .int .u32 0, .int .u32 0, .int .u32 0, .int .u32 0, .int .u32 0, .int .u32 0, .int .u32 0, .int .u32 0, .int .u32 0, .int .u32 0, .int .u32 0, .int .u32 0, .int .u32 0, .int .u32 0, .int .u32 0, .int .u32 0, .int .u32 0, .int .u32 0, .int .u32 0, .int .u32 0, .int .u32 0, .int .u32 0, .int .u32 0, .int .i64 0] 36
theorem zC_eq : Obj.cells #[.int .u64 0, .int .u32 0, .int .u32 0, .int .u32 0, .int .u32 0, .int .u32 0, .int .u32 0, .int .u32 0, .int .u32 0, .int .u32 0, .int .u32 0, .int .u32 0, .int .u32 0, .int .u32 0, .int .u32 0, .int .u32 0, .int .u32 0, .int .u32 0, .int .u32 0, .int .u32 0, .int .u32 0, .int .u32 0, .int .u32 0, .int .u32 0, .int .u32 0, .int .i64 0] 36 = zC := rfl
theorem rcTick (v t : Int) (n : Nat) (A B S : Nat -> Int) (w : World) (t0 : 0 <= t) (t1 : t < 18446744073709551616) (v0 : 0 <= v) (v1 : v < 18446744073709551616) :
 Calls Tryz.prog 84 #[.agg (rcr t n A B S).toArray, .int .u64 v] w fun e w' => e = .returned (.agg (rcr (addS t v) n A B S).toArray) /\ Below w.heap.size w w' := by
 go_enter Tryz.func84, Tryz.ntmps84
 have h0 : RcAt ((w.alloc (.cells (rcr t n A B S).toArray 36)).alloc zC) w.heap.size t n A B S := b2_0 w _ _
 have h1 : RcAt ((w.alloc (.cells (rcr t n A B S).toArray 36)).alloc zC) (w.heap.size + 1) 0 0 zeS zeS zeS := b2_1 w _ _
 have hb := trA (trA (tr0 w) (.cells (rcr t n A B S).toArray 36)) zC
 go_upto_region 1 with (fail)
 rw [zC_eq]
 generalize ((w.alloc (.cells (rcr t n A B S).toArray 36)).alloc zC) = W at *
 have c := h0.cT
 have f := h0.free 0
 have k0 := h0.setT (addS t v)
 have k1 := h1.other w.heap.size 0 (.int .u64 (addS t v)) (by omega)
 have hb2 := hb.setCell (p := ⟨w.heap.size, 0, none⟩) (Nat.le_refl _) (.int .u64 (addS t v))
 have K0 := Hd k0
 have K1 := Hd k1
 clear h0 h1 k0 k1
 go_wp2_with (first | (go_at_call 149; refine (rAdd _ _ _ t0 t1 v0 v1).mono ?_; rintro e w' ⟨rfl, rfl⟩) | (refine loadC rfl (.tmp 2) rfl rfl K0.out ?_) | (refine storeC rfl (.tmp 4) (.tmp 10) rfl rfl rfl K1.out (by rw [List.size_toArray, rcr_len]) ?_))
 exact bodyPost_ret (v := .agg (rcr (addS t v) n A B S).toArray) (resC Tryz.results84 _ _ rfl (RcAt.row K1.out)) rfl ⟨rfl, below_setRow hb2 _ (by omega)⟩
def frs (c : Int) (A : Nat -> Int) (k : Nat) : Nat -> Int := fun i => if i < k then c else A i
theorem frs_zero (c : Int) (A : Nat -> Int) : frs c A 0 = A := by funext i; simp [frs]
theorem frs_succ (c : Int) (A : Nat -> Int) (k : Nat) : upd (frs c A k) k c = frs c A (k + 1) := by
 funext i; unfold upd frs
 by_cases e : i = k
 . subst e; simp
 . rw [if_neg e]; simp only [show (i < k + 1) = (i < k) from propext (by omega)]
theorem frs_all (c : Int) (A : Nat -> Int) (i : Nat) (h : i < 8) : frs c A 8 i = c := by unfold frs; rw [if_pos h]
theorem rcReset (t : Int) (n : Nat) (A B S : Nat -> Int) (w : World) :
 Calls Tryz.prog 81 #[.agg (rcr t n A B S).toArray] w fun e w' => e = .returned (.agg (rcl t n nvD zeS).toArray) /\ Below w.heap.size w w' := by
 go_enter Tryz.func81, Tryz.ntmps81
 have h0 : RcAt ((w.alloc (.cells (rcr t n A B S).toArray 36)).alloc zC) w.heap.size t n A B S := b2_0 w _ _
 have h1 : RcAt ((w.alloc (.cells (rcr t n A B S).toArray 36)).alloc zC) (w.heap.size + 1) 0 0 zeS zeS zeS := b2_1 w _ _
 have hb := trA (trA (tr0 w) (.cells (rcr t n A B S).toArray 36)) zC
 go_wp2_with fail
 rw [zC_eq]
 generalize ((w.alloc (.cells (rcr t n A B S).toArray 36)).alloc zC) = W at *
 go_loopw [3] (fun i wr => ∃ k : Nat, k <= 8 /\ i = .int .i64 k /\ RcAt wr w.heap.size t n (frs 4294967295 A k) (frs 4294967295 B k) (frs 0 S k) /\ RcAt wr (w.heap.size + 1) 0 0 zeS zeS zeS /\ Below w.heap.size w wr) (fun i _ => 8 - (intOf i).toNat)
 case atStart => exact ⟨0, by omega, rfl, by rw [frs_zero, frs_zero, frs_zero]; exact h0, h1, hb⟩
 case round =>
  clear h0 h1 hb
  obtain ⟨k, hk, rfl, h0, h1, hb⟩ := hrel
  by_cases hlt : k < 8
  . have g1 := h0.setL k 4294967295 hlt
    have g2 := g1.setH k 4294967295 hlt
    have g3 := g2.setS k 0 hlt
    rw [frs_succ, frs_succ, frs_succ] at g3
    have q := ((h1.other w.heap.size (1 + k) (.int .u32 4294967295) (by omega)).other w.heap.size (9 + k) (.int .u32 4294967295) (by omega)).other w.heap.size (17 + k) (.int .u32 0) (by omega)
    have b3 := ((hb.setCell (p := ⟨w.heap.size, 1 + k, none⟩) (Nat.le_refl _) (.int .u32 4294967295)).setCell (p := ⟨w.heap.size, 9 + k, none⟩) (Nat.le_refl _) (.int .u32 4294967295)).setCell (p := ⟨w.heap.size, 17 + k, none⟩) (Nat.le_refl _) (.int .u32 0)
    have G3 := Hd g3
    have c1 := h0.cL k hlt
    have f1 := h0.free (1 + k)
    have c2 := h0.cH k hlt
    have f2 := h0.free (9 + k)
    have c3 := h0.cS k hlt
    have f3 := h0.free (17 + k)
    clear g1 g2 g3 h0 h1
    go_wp2_with fail
    go_roundw
    case rel => exact ⟨k + 1, by omega, by go_num, G3.out, q, b3⟩
    case measure => simp [intOf]; omega
  . obtain rfl : k = 8 := by omega
    have e : rcr t n (frs 4294967295 A 8) (frs 4294967295 B 8) (frs 0 S 8) = rcl t n nvD zeS := rcr_congr (fun i hi => by rw [frs_all _ _ _ hi]; rfl) (fun i hi => by rw [frs_all _ _ _ hi]; rfl) (fun i hi => by rw [frs_all _ _ _ hi]; rfl)
    have E := Hd e
    clear e
    go_wp2_with (first | (refine loadC rfl (.tmp 1) rfl rfl h0 ?_) | (refine storeC rfl (.tmp 2) (.tmp 17) rfl rfl rfl h1 (by rw [List.size_toArray, rcr_len]) ?_))
    exact bodyPost_ret (v := .agg (rcr t n (frs 4294967295 A 8) (frs 4294967295 B 8) (frs 0 S 8)).toArray) (resC Tryz.results81 _ _ rfl (RcAt.row h1)) rfl ⟨by rw [E.out], below_setRow hb _ (by omega)⟩
theorem rcNew (n : Nat) (w : World) :
 Calls Tryz.prog 39 #[.int .i64 n] w fun e w' => e = .returned (.agg (rcl 0 n nvD zeS).toArray) /\ Below w.heap.size w w' := by
 go_enter Tryz.func39, Tryz.ntmps39
 have h0 : RcAt (w.alloc zC) w.heap.size 0 0 zeS zeS zeS := blk_new w _
 have hb := trA (tr0 w) zC
 go_wp2_with fail
 rw [zC_eq]
 generalize w.alloc zC = W at *
 refine (rcReset 0 n zeS zeS zeS W).mono ?_
 rintro e w1 ⟨rfl, hb1⟩
 have h1 := h0.below hb1
 have hb2 := tr hb hb1
 clear h0 hb hb1
 unfold rcl
 go_wp2_with (refine storeC rfl (.tmp 2) (.tmp 5) rfl rfl rfl h1 (by rw [List.size_toArray, rcr_len]) ?_)
 exact bodyPost_ret (v := .agg (rcl 0 n nvD zeS).toArray) (resC Tryz.results39 _ _ rfl (RcAt.row h1)) rfl ⟨rfl, below_setRow hb2 _ (Nat.le_refl _)⟩
theorem rcCompare (h t : Int) (n : Nat) (D S : Nat -> Int) (w : World) (n8 : n <= 8) (hD : okD D) :
 Calls Tryz.prog 47 #[.agg (rcl t n D S).toArray, .int .i64 h] w fun e w' => e = .returned (.int .u64 (cCmp n D h)) /\ Below w.heap.size w w' := by
 unfold rcl
 have h0 : RcAt (w.alloc (.cells (rcr t n (fun i => lo (D i)) (fun i => hi (D i)) S).toArray 36)) w.heap.size t n (fun i => lo (D i)) (fun i => hi (D i)) S := blk_new w _
 have hb := trA (tr0 w) (.cells (rcr t n (fun i => lo (D i)) (fun i => hi (D i)) S).toArray 36)
 have hl := h0.lt
 have cN := h0.cN
 cases hq : isHart n h
 . rw [show cCmp n D h = 18446744073709551615 by unfold cCmp; rw [hq]; rfl]
   have hh : ¬ (0 <= h /\ h < (n : Int)) := by unfold isHart at hq; simpa using hq
   by_cases hz : 0 <= h
   all_goals
    go_enter Tryz.func47, Tryz.ntmps47
    go_wp2_with fail
    go_ret
    exact ⟨rfl, hb⟩
 . have hh : 0 <= h /\ h < (n : Int) := by unfold isHart at hq; simpa using hq
   obtain ⟨k, rfl⟩ := Int.eq_ofNat_of_zero_le hh.1
   have hk : k < 8 := by omega
   rw [show cCmp n D (k : Int) = D k by unfold cCmp; rw [if_pos hq]; rfl]
   have cL := h0.cL k hk
   have cH := h0.cH k hk
   have hg := gcell
   obtain ⟨d0, d1⟩ := hD k
   have HJ := Hd (join_hi_lo (D k))
   have a0 := lo_nonneg (D k)
   have a1 := lo_lt (D k)
   have b0 := hi_nonneg d0
   have b1 := hi_lt d1
   have hkn : (k : Int) < n := hh.2
   clear hq hh hD
   go_enter Tryz.func47, Tryz.ntmps47
   go_upto_region 1 with (fail)
   generalize (w.alloc (.cells (rcr t n (fun i => lo (D i)) (fun i => hi (D i)) S).toArray 36)) = W at *
   go_wp2_with fail
   refine wp_region_quiet_below (by kernel_rfl) (by kernel_rfl) ?_
   repeat (go_big_quiet_step (first | (go_at_call 101; exact Calls.regrown_of ((rJoin _ _ _ b0 b1 a0 a1).mono fun _ _ g => ⟨g.1, g.2 ▸ tr0 _⟩))))
   refine wpQuiet_nil ?_
   intro _ hw'
   obtain ⟨⟨dq, osq⟩, hw''⟩ := hw'
   subst hw''
   go_wp2_with fail
   go_ret
   exact ⟨ret_int HJ.out, trG hb _ _⟩
theorem iV : (Tryz.prog.info? 39).map (·.size) = some 7 := by kernel_rfl
def r7 (en lk ar : Bool) (cl tot si fa : Int) : List Value := [.bool en, .bool lk, .bool ar, .int .u32 cl, .int .u32 tot, .int .u64 si, .int .i64 fa]
def vl (t : Wd) : List Value := r7 t.en t.lk t.ar t.cl t.tot t.si t.fa
theorem r7_one (en lk ar : Bool) (cl tot si fa : Int) : ∀ x ∈ r7 en lk ar cl tot si fa, x.oneCell' = true := by
 intro x h
 simp only [r7, List.mem_cons, List.not_mem_nil, or_false] at h
 rcases h with rfl | rfl | rfl | rfl | rfl | rfl | rfl <;> rfl
abbrev tV : TypeId := 39
def VAt (w : World) (b : Nat) (t : Wd) : Prop := w.heap[b]? = some (.cells (vl t).toArray tV (0, 0))
section
variable {w w' : World} {b : Nat} {t : Wd}
theorem VAt.lt (h : VAt w b t) : b < w.heap.size := lt_of_block h
theorem VAt.below (h : VAt w b t) (hb : Below w.heap.size w w') : VAt w' b t := blk_below hb h h.lt
theorem VAt.off {S : Nat -> Prop} (h : VAt w b t) (ho : Off S w w') (hs : ¬ S b) : VAt w' b t := ho.at h hs
theorem VAt.free (h : VAt w b t) (j : Nat) : w.frozen? ⟨b, j, none⟩ = false := blk_free h j
theorem VAt.c0 (h : VAt w b t) : w.cell? ⟨b, 0, none⟩ = some (.bool t.en) := by rw [blk_cell h 0]; rfl
theorem VAt.c1 (h : VAt w b t) : w.cell? ⟨b, 1, none⟩ = some (.bool t.lk) := by rw [blk_cell h 1]; rfl
theorem VAt.c2 (h : VAt w b t) : w.cell? ⟨b, 2, none⟩ = some (.bool t.ar) := by rw [blk_cell h 2]; rfl
theorem VAt.c3 (h : VAt w b t) : w.cell? ⟨b, 3, none⟩ = some (.int .u32 t.cl) := by rw [blk_cell h 3]; rfl
theorem VAt.c4 (h : VAt w b t) : w.cell? ⟨b, 4, none⟩ = some (.int .u32 t.tot) := by rw [blk_cell h 4]; rfl
theorem VAt.c5 (h : VAt w b t) : w.cell? ⟨b, 5, none⟩ = some (.int .u64 t.si) := by rw [blk_cell h 5]; rfl
theorem VAt.c6 (h : VAt w b t) : w.cell? ⟨b, 6, none⟩ = some (.int .i64 t.fa) := by rw [blk_cell h 6]; rfl
theorem VAt.set (h : VAt w b t) (j : Nat) (x : Value) {s : Wd} (he : (vl t).set j x = vl s) : VAt (w.setCell ⟨b, j, none⟩ x) b s := by
 unfold VAt; rw [blk_set h, <- he]; simp
theorem VAt.s0 (h : VAt w b t) (x : Bool) : VAt (w.setCell ⟨b, 0, none⟩ (.bool x)) b { t with en := x } := h.set _ _ rfl
theorem VAt.s1 (h : VAt w b t) (x : Bool) : VAt (w.setCell ⟨b, 1, none⟩ (.bool x)) b { t with lk := x } := h.set _ _ rfl
theorem VAt.s2 (h : VAt w b t) (x : Bool) : VAt (w.setCell ⟨b, 2, none⟩ (.bool x)) b { t with ar := x } := h.set _ _ rfl
theorem VAt.s3 (h : VAt w b t) (x : Int) : VAt (w.setCell ⟨b, 3, none⟩ (.int .u32 x)) b { t with cl := x } := h.set _ _ rfl
theorem VAt.s4 (h : VAt w b t) (x : Int) : VAt (w.setCell ⟨b, 4, none⟩ (.int .u32 x)) b { t with tot := x } := h.set _ _ rfl
theorem VAt.s5 (h : VAt w b t) (x : Int) : VAt (w.setCell ⟨b, 5, none⟩ (.int .u64 x)) b { t with si := x } := h.set _ _ rfl
theorem VAt.s6 (h : VAt w b t) (x : Int) : VAt (w.setCell ⟨b, 6, none⟩ (.int .i64 x)) b { t with fa := x } := h.set _ _ rfl
theorem VAt.other (h : VAt w b t) (k j : Nat) (x : Value) (hne : b ≠ k) : VAt (w.setCell ⟨k, j, none⟩ x) b t := blk_else h k j x hne
theorem VAt.row {old : Array Value} (h : w.heap[b]? = some (.cells old tV (0, 0))) (t : Wd) : VAt (w.setRow b (vl t).toArray) b t := row_set _ h
theorem VAt.elseRow (h : VAt w b t) (g : Nat) (cs : Array Value) (hne : b ≠ g) : VAt (w.setRow g cs) b t := row_else g cs h hne
theorem VAt.grown (h : VAt w b t) : ∀ w', (∃ p : Regrown, w' = grow (redrawn w p.d) p.os) -> VAt w' b t := grown_block h
end
section
variable {ops : Array Oper} {rest : List Oper} {o : Oper} {a : Act} {w : World} {Q : Exit -> Act -> World -> Prop}
theorem loadV (hgd : o.guard = none) (x : Operand) (ho : o.op = .load 39 x) {b : Nat} (hx : a.eval x = .pointer (some ⟨b, 0, none⟩)) {t : Wd} (hg : VAt w b t)
 (h : wpList Tryz.prog ops Q rest (a.put o.dst (.agg (vl t).toArray)) w) : wpList Tryz.prog ops Q (o :: rest) a w :=
 wpList_load_part hgd _ x ho b 0 hx _ (vl t) hg Tryz.underlying39 rfl iV (part_all _) h
theorem storeV (hgd : o.guard = none) (x y : Operand) (ho : o.op = .store 39 x y) {b : Nat} (hx : a.eval x = .pointer (some ⟨b, 0, none⟩)) {t : Wd} (hy : a.eval y = .agg (vl t).toArray) {t' : Wd} (hg : VAt w b t')
 (h : wpList Tryz.prog ops Q rest (a.put o.dst undef) (w.setRow b (vl t).toArray)) : wpList Tryz.prog ops Q (o :: rest) a w := by
 refine wpList_store_part hgd _ x y ho b 0 hx (vl t) hy hg iV (by simp [vl, r7]) (r7_one _ _ _ _ _ _ _) ?_
 rw [spliced_all _ _ (by simp [vl, r7])]
 exact h
theorem qloadV {C : World -> Prop} {K : Act -> Prop} (x : Operand) (ho : o.op = .load 39 x) {b : Nat} (hx : a.eval x = .pointer (some ⟨b, 0, none⟩)) {t : Wd} (hg : ∀ w, C w -> VAt w b t)
 (h : K (a.put o.dst (.agg (vl t).toArray))) : o.quiet Tryz.prog a C K :=
 quiet_load_part _ x ho b 0 hx _ (vl t) (fun w hw => hg w hw) Tryz.underlying39 rfl iV (part_all _) h
end
theorem resV2 {fn : Func} {p q : Tmp} (h : fn.results = #[.cell p 39, .tmp q]) (tmps : Array Value) (w : World) {b : Nat} {t : Wd} (y : Value) (hp : tmps[p]? = some (.pointer (some ⟨b, 0, none⟩))) (hq : tmps[q]? = some y) (hg : VAt w b t) :
 (results fn tmps).run Tryz.prog w = .ok (.tuple #[.agg (vl t).toArray, y]) w :=
 results_cell_slot h tmps w b 0 _ (vl t) y hp hq hg Tryz.underlying39 rfl iV (part_all _)
def zV : Obj := .cells (vl wz).toArray tV (0, 0)
theorem zV_eq : Obj.cells #[.bool false, .bool false, .bool false, .int .u32 0, .int .u32 0, .int .u64 0, .int .i64 0] 39 (0, 0) = zV := rfl
def oV (t : Wd) : Obj := .cells (vl t).toArray tV (0, 0)
theorem oV_eq (t : Wd) : Obj.cells (vl t).toArray 39 (0, 0) = oV t := rfl
theorem iR9 : (Tryz.prog.info? 42).map (·.size) = some 35 := by kernel_rfl
def sl (f : Nat -> Bool) (la ct : Int) (qs : Bool) : List Value := bl f 32 ++ [.int .i64 la, .int .u32 ct, .bool qs]
theorem sl_len (f : Nat -> Bool) (la ct : Int) (qs : Bool) : (sl f la ct qs).length = 35 := by unfold sl; simp [bl_len]
theorem sl_one (f : Nat -> Bool) (la ct : Int) (qs : Bool) : ∀ v ∈ sl f la ct qs, v.oneCell' = true := by
 intro v h
 unfold sl at h
 rcases List.mem_append.1 h with h | h
 . exact bl_one _ _ v h
 . simp only [List.mem_cons, List.not_mem_nil, or_false] at h
   rcases h with rfl | rfl | rfl <;> rfl
theorem sl_get (f : Nat -> Bool) (la ct : Int) (qs : Bool) (i : Nat) (h : i < 32) : (sl f la ct qs)[i]? = some (.bool (f i)) := by
 unfold sl; rw [List.getElem?_append_left (by rw [bl_len]; exact h), bl_get _ _ _ h]
theorem sl_32 (f : Nat -> Bool) (la ct : Int) (qs : Bool) : (sl f la ct qs)[32]? = some (.int .i64 la) := by
 unfold sl; rw [List.getElem?_append_right (by rw [bl_len]; omega), bl_len]; rfl
theorem sl_33 (f : Nat -> Bool) (la ct : Int) (qs : Bool) : (sl f la ct qs)[33]? = some (.int .u32 ct) := by
 unfold sl; rw [List.getElem?_append_right (by rw [bl_len]; omega), bl_len]; rfl
theorem sl_34 (f : Nat -> Bool) (la ct : Int) (qs : Bool) : (sl f la ct qs)[34]? = some (.bool qs) := by
 unfold sl; rw [List.getElem?_append_right (by rw [bl_len]; omega), bl_len]; rfl
theorem sl_part (f : Nat -> Bool) (la ct : Int) (qs : Bool) : PartAt (sl f la ct qs).toArray 0 (bl f 32) := part_left _ _
theorem sl_set (f : Nat -> Bool) (la ct : Int) (qs : Bool) (i : Nat) (b : Bool) (h : i < 32) : (sl f la ct qs).set i (.bool b) = sl (fun j => if j = i then b else f j) la ct qs := by
 unfold sl; rw [List.set_append_left _ _ (by rw [bl_len]; exact h), bl_set]
theorem sl_s32 (f : Nat -> Bool) (la ct : Int) (qs : Bool) (x : Int) : (sl f la ct qs).set 32 (.int .i64 x) = sl f x ct qs := by
 unfold sl; rw [List.set_append_right _ _ (by rw [bl_len]; omega), bl_len]; rfl
theorem sl_s33 (f : Nat -> Bool) (la ct : Int) (qs : Bool) (x : Int) : (sl f la ct qs).set 33 (.int .u32 x) = sl f la x qs := by
 unfold sl; rw [List.set_append_right _ _ (by rw [bl_len]; omega), bl_len]; rfl
theorem sl_s34 (f : Nat -> Bool) (la ct : Int) (qs : Bool) (x : Bool) : (sl f la ct qs).set 34 (.bool x) = sl f la ct x := by
 unfold sl; rw [List.set_append_right _ _ (by rw [bl_len]; omega), bl_len]; rfl
abbrev tR9 : TypeId := 42
def UAt (w : World) (b : Nat) (f : Nat -> Bool) (la ct : Int) (qs : Bool) : Prop := w.heap[b]? = some (.cells (sl f la ct qs).toArray tR9 (0, 0))
section
variable {w w' : World} {b : Nat} {f : Nat -> Bool} {la ct : Int} {qs : Bool}
theorem UAt.lt (h : UAt w b f la ct qs) : b < w.heap.size := lt_of_block h
theorem UAt.below (h : UAt w b f la ct qs) (hb : Below w.heap.size w w') : UAt w' b f la ct qs := blk_below hb h h.lt
theorem UAt.off {S : Nat -> Prop} (h : UAt w b f la ct qs) (ho : Off S w w') (hs : ¬ S b) : UAt w' b f la ct qs := ho.at h hs
theorem UAt.free (h : UAt w b f la ct qs) (j : Nat) : w.frozen? ⟨b, j, none⟩ = false := blk_free h j
theorem UAt.ci (h : UAt w b f la ct qs) (i : Nat) (hi : i < 32) : w.cell? ⟨b, i, none⟩ = some (.bool (f i)) := by rw [blk_cell h i]; simpa using sl_get f la ct qs i hi
theorem UAt.c32 (h : UAt w b f la ct qs) : w.cell? ⟨b, 32, none⟩ = some (.int .i64 la) := by rw [blk_cell h 32]; simpa using sl_32 f la ct qs
theorem UAt.c33 (h : UAt w b f la ct qs) : w.cell? ⟨b, 33, none⟩ = some (.int .u32 ct) := by rw [blk_cell h 33]; simpa using sl_33 f la ct qs
theorem UAt.c34 (h : UAt w b f la ct qs) : w.cell? ⟨b, 34, none⟩ = some (.bool qs) := by rw [blk_cell h 34]; simpa using sl_34 f la ct qs
theorem UAt.si (h : UAt w b f la ct qs) (i : Nat) (x : Bool) (hi : i < 32) : UAt (w.setCell ⟨b, i, none⟩ (.bool x)) b (fun j => if j = i then x else f j) la ct qs := by
 unfold UAt; rw [blk_set h, set_arr, sl_set _ _ _ _ _ _ hi]
theorem UAt.s32 (h : UAt w b f la ct qs) (x : Int) : UAt (w.setCell ⟨b, 32, none⟩ (.int .i64 x)) b f x ct qs := by unfold UAt; rw [blk_set h, set_arr, sl_s32]
theorem UAt.s33 (h : UAt w b f la ct qs) (x : Int) : UAt (w.setCell ⟨b, 33, none⟩ (.int .u32 x)) b f la x qs := by unfold UAt; rw [blk_set h, set_arr, sl_s33]
theorem UAt.s34 (h : UAt w b f la ct qs) (x : Bool) : UAt (w.setCell ⟨b, 34, none⟩ (.bool x)) b f la ct x := by unfold UAt; rw [blk_set h, set_arr, sl_s34]
theorem UAt.congr {f' : Nat -> Bool} (h : UAt w b f la ct qs) (hf : ∀ i, i < 32 -> f i = f' i) : UAt w b f' la ct qs := by
 unfold UAt sl at *
 rw [bl_congr f' f 32 fun i hi => (hf i hi).symm]; exact h
theorem UAt.other (h : UAt w b f la ct qs) (k j : Nat) (x : Value) (hne : b ≠ k) : UAt (w.setCell ⟨k, j, none⟩ x) b f la ct qs := blk_else h k j x hne
theorem UAt.row {old : Array Value} (h : w.heap[b]? = some (.cells old tR9 (0, 0))) (f : Nat -> Bool) (la ct : Int) (qs : Bool) : UAt (w.setRow b (sl f la ct qs).toArray) b f la ct qs := row_set _ h
theorem UAt.elseRow (h : UAt w b f la ct qs) (g : Nat) (cs : Array Value) (hne : b ≠ g) : UAt (w.setRow g cs) b f la ct qs := row_else g cs h hne
theorem UAt.alloc (h : UAt w b f la ct qs) (o : Obj) : UAt (w.alloc o) b f la ct qs := (blk_old w o h.lt).trans h
theorem UAt.grown (h : UAt w b f la ct qs) : ∀ w', (∃ p : Regrown, w' = grow (redrawn w p.d) p.os) -> UAt w' b f la ct qs := grown_block h
end
section
variable {ops : Array Oper} {rest : List Oper} {o : Oper} {a : Act} {w : World} {Q : Exit -> Act -> World -> Prop}
theorem loadU (hgd : o.guard = none) (x : Operand) (ho : o.op = .load 42 x) {b : Nat} (hx : a.eval x = .pointer (some ⟨b, 0, none⟩)) {f : Nat -> Bool} {la ct : Int} {qs : Bool} (hg : UAt w b f la ct qs)
 (h : wpList Tryz.prog ops Q rest (a.put o.dst (.agg (sl f la ct qs).toArray)) w) : wpList Tryz.prog ops Q (o :: rest) a w :=
 wpList_load_part hgd _ x ho b 0 hx _ (sl f la ct qs) hg Tryz.underlying42 rfl (by rw [sl_len]; exact iR9) (part_all _) h
theorem storeU (hgd : o.guard = none) (x y : Operand) (ho : o.op = .store 42 x y) {b : Nat} (hx : a.eval x = .pointer (some ⟨b, 0, none⟩)) {f : Nat -> Bool} {la ct : Int} {qs : Bool} (hy : a.eval y = .agg (sl f la ct qs).toArray) {f' : Nat -> Bool} {la' ct' : Int} {qs' : Bool} (hg : UAt w b f' la' ct' qs')
 (h : wpList Tryz.prog ops Q rest (a.put o.dst undef) (w.setRow b (sl f la ct qs).toArray)) : wpList Tryz.prog ops Q (o :: rest) a w := by
 refine wpList_store_part hgd _ x y ho b 0 hx (sl f la ct qs) hy hg (by rw [sl_len]; exact iR9) (by simp [sl_len]) (sl_one _ _ _ _) ?_
 rw [spliced_all _ _ (by simp [sl_len])]
 exact h
end
theorem load25U {ops : Array Oper} {rest : List Oper} {o : Oper} {a : Act} {w : World} {Q : Exit -> Act -> World -> Prop} (hgd : o.guard = none) (x : Operand) (ho : o.op = .load 40 x) {b : Nat} (hx : a.eval x = .pointer (some ⟨b, 0, none⟩)) {f : Nat -> Bool} {la ct : Int} {qs : Bool} (hg : UAt w b f la ct qs)
 (h : wpList Tryz.prog ops Q rest (a.put o.dst (.agg (bl f 32).toArray)) w) : wpList Tryz.prog ops Q (o :: rest) a w :=
 wpList_load_part hgd _ x ho b 0 hx _ (bl f 32) hg Tryz.underlying40 rfl (by rw [bl_len]; exact i25) (sl_part _ _ _ _) h
theorem resU {fn : Func} {p : Tmp} (h : fn.results = #[.cell p 42]) (tmps : Array Value) (w : World) {b : Nat} {f : Nat -> Bool} {la ct : Int} {qs : Bool} (hp : tmps[p]? = some (.pointer (some ⟨b, 0, none⟩))) (hg : UAt w b f la ct qs) :
 (results fn tmps).run Tryz.prog w = .ok (.agg (sl f la ct qs).toArray) w :=
 results_cell_one h tmps w b 0 _ (sl f la ct qs) hp hg Tryz.underlying42 rfl (by rw [sl_len]; exact iR9) (part_all _)
theorem resU2 {fn : Func} {p q : Tmp} (h : fn.results = #[.cell p 42, .tmp q]) (tmps : Array Value) (w : World) {b : Nat} {f : Nat -> Bool} {la ct : Int} {qs : Bool} (y : Value) (hp : tmps[p]? = some (.pointer (some ⟨b, 0, none⟩))) (hq : tmps[q]? = some y) (hg : UAt w b f la ct qs) :
 (results fn tmps).run Tryz.prog w = .ok (.tuple #[.agg (sl f la ct qs).toArray, y]) w :=
 results_cell_slot h tmps w b 0 _ (sl f la ct qs) y hp hq hg Tryz.underlying42 rfl (by rw [sl_len]; exact iR9) (part_all _)
def oU (f : Nat -> Bool) (la ct : Int) (qs : Bool) : Obj := .cells (sl f la ct qs).toArray tR9 (0, 0)
theorem oU_eq (f : Nat -> Bool) (la ct : Int) (qs : Bool) : Obj.cells (sl f la ct qs).toArray 42 (0, 0) = oU f la ct qs := rfl
def zU : Obj := oU (fun _ => false) 0 0 false
theorem zU_eq : Obj.cells #[.bool false, .bool false, .bool false, .bool false, .bool false, .bool false, .bool false, .bool false, .bool false, .bool false, .bool false, .bool false, .bool false, .bool false, .bool false, .bool false, .bool false, .bool false, .bool false, .bool false, .bool false, .bool false, .bool false, .bool false, .bool false, .bool false, .bool false, .bool false, .bool false, .bool false, .bool false, .bool false, .int .i64 0, .int .u32 0, .bool false] 42 (0, 0) = zU := rfl
theorem u_new (w : World) (f : Nat -> Bool) (la ct : Int) (qs : Bool) : UAt (w.alloc (oU f la ct qs)) w.heap.size f la ct qs := blk_new w _
def ul (t : Rs) : List Value := sl (bit t.ca) t.la t.ct t.qs
end Go.Proofs.YtcgmnjajodegmaaGreat.B
