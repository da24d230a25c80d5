/- A file of registers: Store. -/
import Derived.Test.YtfhggmiaablcnaaFileL
import Derived.Test.YtfhggmiaablcnaaRCode
namespace Go.Proofs.Ytfhggmiaablcnaa.B
set_option linter.unusedVariables false
set_option linter.unusedSimpArgs false
open Go.ChangeShapes Go.WideShapes Go.RowKit Go.Sort
/-- A register, written. -/
def Rg.put (x : Rg) (v : Int) : Rg := ⟨stV x.v x.r x.c v, x.s, x.r, x.c⟩
theorem Rg.put_wf {x : Rg} (h : x.wf) (v : Int) : (x.put v).wf := ⟨stV_bounds _ _ _ _, h.2.1, h.2.2.1, h.2.2.2⟩
theorem fStore1 (x : Rg) (v : Int) (vb : Nat) (w : World) (hx : x.wf) (v0 : 0 ≤ v) (v1 : v < 4294967296) (hv : w.cell? ⟨vb, 0, none⟩ = some (.int .u32 v)) (hl : vb < w.heap.size) :
    Calls Try.prog 38 #[x.val, .pointer (some ⟨vb, 0, none⟩)] w fun e w' => e = .returned (x.put v).val ∧ Below w.heap.size w w' := by
  obtain ⟨a, s, r, c⟩ := x
  obtain ⟨⟨a0, a1⟩, _, ⟨r0, r1⟩, ⟨c0, c1⟩⟩ := hx
  simp only at a0 a1 r0 r1 c0 c1
  unfold Rg.val Rg.put
  go_enter Try.func38, Try.ntmps38
  go_wp2_with fail
  refine (Store a s r c v _ a0 a1 r0 r1 c0 c1 v0 v1).mono ?_
  rintro e w1 ⟨rfl, hb⟩
  have hX := blk_below hb (b2_1 w _ _) (by rw [b2_s]; omega)
  have hx0 := blk_cell hX 0
  have hx1 := blk_cell hX 1
  have hx2 := blk_cell hX 2
  have hx3 := blk_cell hX 3
  simp only [List.getElem?_toArray, List.getElem?_cons_zero, List.getElem?_cons_succ] at hx0 hx1 hx2 hx3
  have hf0 := blk_free hX 0
  have hf1 := blk_free hX 1
  have hf2 := blk_free hX 2
  have hf3 := blk_free hX 3
  have HX := Lib.hid hX
  have hbw : Below w.heap.size w w1 := tr (trA (trA (tr0 w) _) _) hb
  clear hX hb
  go_wp2_with fail
  have hY := blk_set (blk_set (blk_set (blk_set HX.out 0 (.int .u32 (stV a r c v))) 1 (.int .u32 s)) 2 (.int .u32 r)) 3 (.int .u32 c)
  have hbY : Below w.heap.size w ((((w1.setCell ⟨w.heap.size + 1, 0, none⟩ (.int .u32 (stV a r c v))).setCell ⟨w.heap.size + 1, 1, none⟩ (.int .u32 s)).setCell ⟨w.heap.size + 1, 2, none⟩ (.int .u32 r)).setCell ⟨w.heap.size + 1, 3, none⟩ (.int .u32 c)) :=
    (((hbw.setCell (Nat.le_add_right _ _) _).setCell (Nat.le_add_right _ _) _).setCell (Nat.le_add_right _ _) _).setCell (Nat.le_add_right _ _) _
  generalize ((((w1.setCell ⟨w.heap.size + 1, 0, none⟩ (.int .u32 (stV a r c v))).setCell ⟨w.heap.size + 1, 1, none⟩ (.int .u32 s)).setCell ⟨w.heap.size + 1, 2, none⟩ (.int .u32 r)).setCell ⟨w.heap.size + 1, 3, none⟩ (.int .u32 c)) = Y at hY hbY ⊢
  have hy0 := blk_cell hY 0
  have hy1 := blk_cell hY 1
  have hy2 := blk_cell hY 2
  have hy3 := blk_cell hY 3
  simp at hy0 hy1 hy2 hy3
  refine bodyPost_ret (v := .agg #[.int .u32 (stV a r c v), .int .u32 s, .int .u32 r, .int .u32 c]) ?_ rfl ⟨rfl, hbY⟩
  simp [results, Try.results38, go_sem, hy0, hy1, hy2, hy3]
theorem fChangeS (off : Int) (x : Rg) (v : Int) (vb f m : Nat) (M : List (Int × Rg)) (w : World) (v0 : 0 ≤ v) (v1 : v < 4294967296) (h0 : 0 ≤ off) (h1 : off < 4294967296) (h : (off % 4 != 0) = false) (hF : FileAt w f m M) (hin : (off, x) ∈ M)
    (hv : w.cell? ⟨vb, 0, none⟩ = some (.int .u32 v)) (hl : vb < w.heap.size) (hne : vb ≠ m) :
    Calls Try.prog 37 #[.pointer (some ⟨f, 0, none⟩), .int .u32 off, .func (.func 38) #[] #[.pointer (some ⟨vb, 0, none⟩)]] w
      fun e w' => e = .returned (.int .i64 0) ∧ FileAt w' f m (putF off (x.put v) M) ∧ Off (· = m) w w' := by
  have hfm : f ≠ m := fun e => by obtain ⟨_, _, hb, _⟩ := hF.map; rw [← e, hF.cell] at hb; cases hb
  have hxw : x.wf := hF.wf _ hin
  have hlf := hF.ltf
  go_enter Try.func37, Try.ntmps37
  go_wp2_with fail
  refine (fFind off x f m M _ h0 h hF hin).mono ?_
  rintro e w1 ⟨rfl, hb⟩
  have hF1 := hF.below hb
  have hc := blk_cell hF1.cell 0
  simp only [List.getElem?_toArray, List.getElem?_cons_zero] at hc
  have hlf1 := hF1.ltf
  have hv1 : w1.cell? ⟨vb, 0, none⟩ = some (.int .u32 v) := (hb.cell (p := ⟨vb, 0, none⟩) hl).trans hv
  have hl1 : vb < w1.heap.size := Nat.lt_of_lt_of_le hl hb.size
  have HF := Lib.hid hF1
  have HB := Lib.hid hb
  clear hF hF1 hb hv
  obtain ⟨a, s, r, c⟩ := x
  unfold Rg.val
  have hcl : ∀ (d : Nat) (os : Array Obj),
      Calls Try.prog 38 #[.agg #[.int .u32 a, .int .u32 s, .int .u32 r, .int .u32 c], .pointer (some ⟨vb, 0, none⟩)] (grow (redrawn (w1.alloc (.cells #[.int .u32 a, .int .u32 s, .int .u32 r, .int .u32 c] 28)) d) os)
        fun e w' => e = .returned (.agg #[.int .u32 (stV a r c v), .int .u32 s, .int .u32 r, .int .u32 c]) ∧ Below (grow (redrawn (w1.alloc (.cells #[.int .u32 a, .int .u32 s, .int .u32 r, .int .u32 c] 28)) d) os).heap.size (grow (redrawn (w1.alloc (.cells #[.int .u32 a, .int .u32 s, .int .u32 r, .int .u32 c] 28)) d) os) w' := by
    intro d os
    have hsz := (below_regrown (w1.alloc (.cells #[.int .u32 a, .int .u32 s, .int .u32 r, .int .u32 c] 28)) d os).size
    refine fStore1 ⟨a, s, r, c⟩ v vb _ hxw v0 v1 ?_ ?_
    · rw [gcell _ _ _ _ _ (by simp; omega)]; exact (World.cell?_alloc_old _ _ _ (by simp; omega)).trans hv1
    · exact Nat.lt_of_lt_of_le (by simp; omega) hsz
  go_wp2_with fail
  have hg := gcell
  have hf := gfrozen
  have hs1 : f < w1.heap.size + 1 := by omega
  refine wp_region_tail_below 9 (by kernel_rfl) (by kernel_rfl) ?_
  simp only [List.take_succ_cons, List.take_zero, List.drop_succ_cons, List.drop_zero]
  repeat (go_big_quiet_step (first
    | (go_at_call 38; exact Calls.regrown_of (hcl _ _))))
  refine wpQuiet_nil ?_
  intro _ hw'
  obtain ⟨⟨dq, osq⟩, hw''⟩ := hw'
  subst hw''
  have hb2 := trG (trA (tr0 w1) (.cells #[.int .u32 a, .int .u32 s, .int .u32 r, .int .u32 c] 28)) dq osq
  have hM2 := HF.out.map.below hb2 HF.out.ltm
  go_wp2_with (at_mapUpdate; refine wpList_put placeKey rfl _ _ _ _ rfl Try.underlying75 rfl hM2 off _ rfl rfl ⟨h0, h1⟩ ?_; intro w3 hM3 ho3)
  go_ret
  refine ⟨rfl, ?_, ((Off.ofBelow HB.out).next (Off.ofBelow hb2) (fun _ _ h => h)).trans ho3⟩
  exact HF.out.put (x := Rg.put ⟨a, s, r, c⟩ v) (Rg.put_wf hxw v) hfm hM3 ((ho3.block f (Nat.lt_of_lt_of_le hlf1 hb2.size) hfm).trans (hb2.block f hlf1))
/-- Written: a register that may be. -/
theorem fStore (off : Int) (x : Rg) (v : Int) (f m : Nat) (M : List (Int × Rg)) (w : World) (v0 : 0 ≤ v) (v1 : v < 4294967296) (h0 : 0 ≤ off) (h1 : off < 4294967296) (h : (off % 4 != 0) = false) (hF : FileAt w f m M) (hin : (off, x) ∈ M) (ho : only x.r x.c = false) :
    Calls Try.prog 11 #[.pointer (some ⟨f, 0, none⟩), .int .u32 off, .int .u32 v] w
      fun e w' => e = .returned (.int .i64 0) ∧ FileAt w' f m (putF off (x.put v) M) ∧ Off (· = m) w w' := by
  have hmf : ∀ (fn : Fn) (first cap : Array Value) (w : World), (Instr.makeFunc fn first cap).run Try.prog w = .ok (.func fn first cap) w := fun _ _ _ _ => rfl
  have hlm := hF.ltm
  go_enter Try.func11, Try.ntmps11
  go_wp2_with fail
  refine (fFind off x f m M _ h0 h (hF.below (trA (tr0 w) _)) hin).mono ?_
  rintro e w1 ⟨rfl, hb⟩
  have hb1 := tr (trA (tr0 w) _) hb
  have hv := (hb.cell (p := ⟨w.heap.size, 0, none⟩) (by simp)).trans (blk_cell (blk_new w (.cells #[.int .u32 v] 26)) 0)
  have hl : w.heap.size < w1.heap.size := Nat.lt_of_lt_of_le (by simp) hb.size
  simp only [List.getElem?_toArray, List.getElem?_cons_zero] at hv
  obtain ⟨a, s, r, c⟩ := x
  unfold Rg.val
  go_wp2_with fail
  refine (Only a s r c _).mono ?_
  rintro e w2 ⟨rfl, hb2⟩
  have hb3 := tr (trA hb1 (.cells #[.int .u32 a, .int .u32 s, .int .u32 r, .int .u32 c] 28)) hb2
  have hv2 := (hb2.cell (p := ⟨w.heap.size, 0, none⟩) (by simp; omega)).trans ((World.cell?_alloc_old _ _ _ (by simp; omega)).trans hv)
  have hl2 : w.heap.size < w2.heap.size := Nat.lt_of_lt_of_le (by simp; omega) hb2.size
  have HB := Lib.hid hb3
  clear hb hb1 hb2 hb3 hv
  go_wp2_with fail
  refine (fChangeS off ⟨a, s, r, c⟩ v w.heap.size f m M _ v0 v1 h0 h1 h (hF.below HB.out) hin hv2 hl2 (by omega)).mono ?_
  rintro e w3 ⟨rfl, hF3, ho3⟩
  go_wp2_with fail
  go_ret
  exact ⟨rfl, hF3, (Off.ofBelow HB.out).trans ho3⟩
end Go.Proofs.Ytfhggmiaablcnaa.B
