/- What New and Copy of a bank return. -/
import Derived.Test.YtijjapmdkalfaaaGBank2
namespace Go.Proofs.Ytijjapmdkalfaaa.B
set_option linter.unusedVariables false
set_option linter.unusedSimpArgs false
open Go.ChangeShapes Go.WideShapes Go.RowKit Go.Sort
def rmO : Obj := .cells (rm 0 (fun _ => 0)).toArray tRm (0, 0)
theorem rmO_eq : Obj.cells #[.pointer none, .pointer none, .pointer none, .pointer none, .pointer none, .pointer none, .pointer none, .pointer none] tRm (0, 0) = rmO := rfl
/-- A timer more. -/
theorem RmAt.push {w w' : World} {g k r : Nat} {q : Nat → Nat} {t : Nat → Tm} (h : RmAt w g k q t) (hb : Below w.heap.size w w') (hk : k < 8) (a : TAt w' r tC (t k)) (o : (t k).ok) (hr : w.heap.size ≤ r) :
    RmAt (w'.setCell ⟨g, k, none⟩ (.pointer (some ⟨r, 0, none⟩))) g (k + 1) (fun i => if i = k then r else q i) t := by
  have h' := h.below hb
  have hrg : r ≠ g := by have := h.lt; omega
  refine ⟨?_, ?_, ?_, ?_, by omega⟩
  · rw [blk_set h'.room, set_arr, show Value.pointer (some ⟨r, 0, none⟩) = ptr r from rfl, rm_set k q r hk]
  · intro i hi
    by_cases e : i = k
    · subst e; rw [if_pos rfl]; exact a.other _ _ _ hrg
    · rw [if_neg e]; exact (h'.tms i (by omega)).other _ _ _ (h'.gne (by omega))
  · intro i hi
    by_cases e : i = k
    · subst e; exact o
    · exact h.ok i (by omega)
  · intro i j hi hj e
    by_cases ei : i = k <;> by_cases ej : j = k
    · rw [ei, ej]
    · rw [if_pos ei, if_neg ej] at e; have := h.ltq (show j < k by omega); omega
    · rw [if_neg ei, if_pos ej] at e; have := h.ltq (show i < k by omega); omega
    · rw [if_neg ei, if_neg ej] at e; exact h.one i j (by omega) (by omega) e
theorem rm_start (w : World) (t : Nat → Tm) : RmAt (w.alloc rmO) w.heap.size 0 (fun _ => 0) t :=
  ⟨blk_new w rmO, fun i hi => by omega, fun i hi => by omega, fun i j hi => by omega, by omega⟩
theorem bNew1 (i : Int) (w : World) : Calls Try.prog 23 #[.int .i64 i] w fun e w' => e = .returned (.pointer (some ⟨w.heap.size, 0, none⟩)) ∧ w' = w.alloc (.cells (wl tz).toArray tC (0, 0)) := by
  go_enter Try.func23, Try.ntmps23
  go_wp2_with fail
  refine (nNew w).mono ?_
  rintro e w1 ⟨rfl, rfl⟩
  go_wp2_with fail
  go_ret
  exact ⟨rfl, rfl⟩
theorem bRowNew {n : Nat} (n8 : n ≤ 8) (w : World) :
    Calls Try.prog 22 #[.int .i64 n, .func (.func 23) #[] #[]] w fun e w' => ∃ q' : Nat → Nat, e = .returned (.slice (some ⟨w.heap.size, 0, none⟩) n n) ∧ RmAt w' w.heap.size n q' (fun _ => tz) ∧ Below w.heap.size w w' ∧ ∀ i, i < n → w.heap.size ≤ q' i := by
  have R0 := rm_start w (fun _ => tz)
  have B0 := trA (tr0 w) rmO
  go_enter Try.func22, Try.ntmps22
  go_upto_region 2 with (fail)
  rw [rmO_eq]
  generalize w.alloc rmO = W at *
  go_wp2_with fail
  go_loopw [8] (fun i wr => ∃ (k : Nat) (q' : Nat → Nat), k ≤ n ∧ i = .int .i64 k ∧ RmAt wr w.heap.size k q' (fun _ => tz) ∧ Below w.heap.size w wr ∧ ∀ i, i < k → w.heap.size ≤ q' i) (fun i wr => n - (intOf i).toNat)
  case atStart => exact ⟨0, _, by omega, rfl, R0, B0, fun i hi => by omega⟩
  case round =>
    clear R0 B0
    obtain ⟨k, q', hk, rfl, R, hB, hq⟩ := hrel
    by_cases hlt : k < n
    · skip
      go_wp2_with fail
      refine (bNew1 k wr).mono ?_
      rintro e w1 ⟨rfl, rfl⟩
      have hb1 := trA (tr0 wr) (.cells (wl tz).toArray tC (0, 0))
      have a1 : TAt (wr.alloc (.cells (wl tz).toArray tC (0, 0))) wr.heap.size tC tz := blk_new wr _
      have R2 := R.push hb1 (by omega) a1 tz_ok (Nat.le_refl _)
      have hB2 := (tr hB hb1).setCell (p := ⟨w.heap.size, k, none⟩) (Nat.le_refl _) (.pointer (some ⟨wr.heap.size, 0, none⟩))
      have hf : (wr.alloc (.cells (wl tz).toArray tC (0, 0))).frozen? ⟨w.heap.size, k, none⟩ = false := blk_free (R.below hb1).room k
      have hc : ∃ v, (wr.alloc (.cells (wl tz).toArray tC (0, 0))).cell? ⟨w.heap.size, k, none⟩ = some v := by
        rw [blk_cell (R.below hb1).room k]
        have : k < (rm k q').length := by rw [rm_len]; omega
        rw [List.getElem?_toArray]
        exact ⟨_, List.getElem?_eq_getElem this⟩
      obtain ⟨v, hc⟩ := hc
      have hsz : w.heap.size ≤ wr.heap.size := hB.size
      have hq2 : ∀ i, i < k + 1 → w.heap.size ≤ (fun i => if i = k then wr.heap.size else q' i) i := by
        intro i hi
        by_cases e : i = k
        · subst e; show w.heap.size ≤ (if i = i then wr.heap.size else q' i); rw [if_pos rfl]; exact hsz
        · show w.heap.size ≤ (if i = k then wr.heap.size else q' i); rw [if_neg e]; exact hq i (by omega)
      have HR := Lib.hid R2
      have HB := Lib.hid hB2
      have HQ := Lib.hid hq2
      clear R hB R2 hB2 hq hq2 a1 hb1 
      generalize wr.alloc (.cells (wl tz).toArray tC (0, 0)) = W1 at *
      generalize wr.heap.size = r at *
      go_wp2_with fail
      go_roundw
      case rel => exact ⟨k + 1, _, by omega, by go_num, HR.out, HB.out, HQ.out⟩
      case measure => simp [intOf]; omega
    · obtain rfl : k = n := by omega
      have HR := Lib.hid R
      clear R
      have hal : Try.prog.arrayLen 74 = 8 := by kernel_rfl
      have hk8 : (k : Int) ≤ 8 := by omega
      go_wp2_with fail
      go_ret
      exact ⟨q', rfl, HR.out, hB, hq⟩
theorem bRowCopy {n : Nat} {w0 : World} {p g : Nat} {q : Nat → Nat} {t : Nat → Tm} (h : BkAt w0 p g n q t) (n8 : n ≤ 8) (w : World) (hb0 : Below w0.heap.size w0 w) :
    Calls Try.prog 22 #[.int .i64 n, .func (.func 17) #[.pointer (some ⟨p, 0, none⟩)] #[]] w fun e w' => ∃ q' : Nat → Nat, e = .returned (.slice (some ⟨w.heap.size, 0, none⟩) n n) ∧ RmAt w' w.heap.size n q' t ∧ Below w.heap.size w w' ∧ ∀ i, i < n → w.heap.size ≤ q' i := by
  have R0 := rm_start w t
  have B0 := trA (tr0 w) rmO
  go_enter Try.func22, Try.ntmps22
  go_upto_region 2 with (fail)
  rw [rmO_eq]
  generalize w.alloc rmO = W at *
  go_wp2_with fail
  go_loopw [8] (fun i wr => ∃ (k : Nat) (q' : Nat → Nat), k ≤ n ∧ i = .int .i64 k ∧ RmAt wr w.heap.size k q' t ∧ Below w.heap.size w wr ∧ ∀ i, i < k → w.heap.size ≤ q' i) (fun i wr => n - (intOf i).toNat)
  case atStart => exact ⟨0, _, by omega, rfl, R0, B0, fun i hi => by omega⟩
  case round =>
    clear R0 B0
    obtain ⟨k, q', hk, rfl, R, hB, hq⟩ := hrel
    by_cases hlt : k < n
    · have H := h.below (hb0.trans (hB.mono hb0.size))
      have ok := h.rm.ok k hlt
      go_wp2_with fail
      refine (bTimer H k hlt).mono ?_
      rintro e w1 ⟨rfl, rfl⟩
      have hb1 := trA (tr0 wr) (.cells (wl (t k)).toArray tC (0, 0))
      have a1 : TAt (wr.alloc (.cells (wl (t k)).toArray tC (0, 0))) wr.heap.size tC (t k) := blk_new wr _
      have R2 := R.push hb1 (by omega) a1 ok (Nat.le_refl _)
      have hB2 := (tr hB hb1).setCell (p := ⟨w.heap.size, k, none⟩) (Nat.le_refl _) (.pointer (some ⟨wr.heap.size, 0, none⟩))
      have hf : (wr.alloc (.cells (wl (t k)).toArray tC (0, 0))).frozen? ⟨w.heap.size, k, none⟩ = false := blk_free (R.below hb1).room k
      have hc : ∃ v, (wr.alloc (.cells (wl (t k)).toArray tC (0, 0))).cell? ⟨w.heap.size, k, none⟩ = some v := by
        rw [blk_cell (R.below hb1).room k]
        have : k < (rm k q').length := by rw [rm_len]; omega
        rw [List.getElem?_toArray]
        exact ⟨_, List.getElem?_eq_getElem this⟩
      obtain ⟨v, hc⟩ := hc
      have hsz : w.heap.size ≤ wr.heap.size := hB.size
      have hq2 : ∀ i, i < k + 1 → w.heap.size ≤ (fun i => if i = k then wr.heap.size else q' i) i := by
        intro i hi
        by_cases e : i = k
        · subst e; show w.heap.size ≤ (if i = i then wr.heap.size else q' i); rw [if_pos rfl]; exact hsz
        · show w.heap.size ≤ (if i = k then wr.heap.size else q' i); rw [if_neg e]; exact hq i (by omega)
      have HR := Lib.hid R2
      have HB := Lib.hid hB2
      have HQ := Lib.hid hq2
      clear R hB R2 hB2 hq hq2 a1 hb1 H
      generalize wr.alloc (.cells (wl (t k)).toArray tC (0, 0)) = W1 at *
      generalize wr.heap.size = r at *
      go_wp2_with fail
      go_roundw
      case rel => exact ⟨k + 1, _, by omega, by go_num, HR.out, HB.out, HQ.out⟩
      case measure => simp [intOf]; omega
    · obtain rfl : k = n := by omega
      have HR := Lib.hid R
      clear R
      have hal : Try.prog.arrayLen 74 = 8 := by kernel_rfl
      have hk8 : (k : Int) ≤ 8 := by omega
      go_wp2_with fail
      go_ret
      exact ⟨q', rfl, HR.out, hB, hq⟩
theorem bNew (n : Nat) (n0 : 1 ≤ n) (n8 : n ≤ 8) (w : World) :
    Calls Try.prog 7 #[.int .i64 n] w fun e w' => ∃ (p g : Nat) (q : Nat → Nat), e = .returned (.tuple #[.pointer (some ⟨p, 0, none⟩), .int .i64 0]) ∧ BkAt w' p g n q (fun _ => tz) ∧ Below w.heap.size w w' ∧ w.heap.size ≤ p ∧ w.heap.size ≤ g ∧ ∀ i, i < n → w.heap.size ≤ q i := by
  go_enter Try.func7, Try.ntmps7
  go_wp2_with fail
  refine (bRowNew n8 w).mono ?_
  rintro e w1 ⟨q, rfl, R, hB, hq⟩
  have B1 := trA hB (.cells #[.slice (some ⟨w.heap.size, 0, none⟩) n n] tBk (0, 0))
  have K : BkAt (w1.alloc (.cells #[.slice (some ⟨w.heap.size, 0, none⟩) n n] tBk (0, 0))) w1.heap.size w.heap.size n q (fun _ => tz) := ⟨blk_new w1 _, R.below (trA (tr0 w1) _)⟩
  have hs := hB.size
  go_wp2_with fail
  go_ret2
  exact ⟨_, _, q, rfl, K, B1, hs, Nat.le_refl _, hq⟩
theorem bNewNo (n : Int) (h : n < 1 ∨ 8 < n) (w : World) :
    Calls Try.prog 7 #[.int .i64 n] w fun e w' => e = .returned (.tuple #[.pointer none, .int .i64 5]) ∧ w = w' := by
  by_cases h0 : n < 1
  · go_enter Try.func7, Try.ntmps7
    go_wp2_with fail
    go_ret2
    exact ⟨rfl, rfl⟩
  · have h8 : 8 < n := by omega
    clear h
    go_enter Try.func7, Try.ntmps7
    go_wp2_with fail
    go_ret2
    exact ⟨rfl, rfl⟩
theorem bCopy {n p g : Nat} {q : Nat → Nat} {t : Nat → Tm} {w : World} (h : BkAt w p g n q t) :
    Calls Try.prog 21 #[.pointer (some ⟨p, 0, none⟩)] w fun e w' => ∃ (p' g' : Nat) (q' : Nat → Nat), e = .returned (.pointer (some ⟨p', 0, none⟩)) ∧ BkAt w' p' g' n q' t ∧ Below w.heap.size w w' ∧ w.heap.size ≤ p' ∧ w.heap.size ≤ g' ∧ ∀ i, i < n → w.heap.size ≤ q' i := by
  have hmf : ∀ (fn : Fn) (first cap : Array Value) (w : World), (Instr.makeFunc fn first cap).run Try.prog w = .ok (.func fn first cap) w := fun _ _ _ _ => rfl
  have n8 := h.rm.n8
  go_enter Try.func21, Try.ntmps21
  go_wp2_with fail
  refine (bLen h).mono ?_
  rintro e w1 ⟨rfl, rfl⟩
  go_wp2_with fail
  refine (bRowCopy h n8 w (tr0 w)).mono ?_
  rintro e w1 ⟨q', rfl, R, hB, hq⟩
  have B1 := trA hB (.cells #[.slice (some ⟨w.heap.size, 0, none⟩) n n] tBk (0, 0))
  have K : BkAt (w1.alloc (.cells #[.slice (some ⟨w.heap.size, 0, none⟩) n n] tBk (0, 0))) w1.heap.size w.heap.size n q' t := ⟨blk_new w1 _, R.below (trA (tr0 w1) _)⟩
  have hs := hB.size
  go_wp2_with fail
  go_ret
  exact ⟨_, _, q', rfl, K, B1, hs, Nat.le_refl _, hq⟩
theorem bCopyNil (w : World) : Calls Try.prog 21 #[.pointer none] w fun e w' => e = .returned (.pointer none) ∧ w = w' := by
  go_enter Try.func21, Try.ntmps21
  go_wp2_with fail
  go_ret
  exact ⟨rfl, rfl⟩
end Go.Proofs.Ytijjapmdkalfaaa.B
