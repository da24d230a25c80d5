/- Several texts in one: Layer 15, package occ: Count, Or. A region that draws its order: its first n operations read (or call what leaves a world of .. -/
import Derived.Test.YtgfoeiikocpmdaaZAaa
import Derived.Test.YtgfoeiikocpmdaaZAab
import Derived.Test.YtgfoeiikocpmdaaZAad
import Derived.Test.YtgfoeiikocpmdaaZAaf
namespace Go.Proofs.Ytgfoeiikocpmdaa.B
set_option linter.unusedVariables false
set_option linter.unusedSimpArgs false
set_option maxRecDepth 100000
open Go.ChangeShapes Go.WideShapes Go.RowKit Go.Sort
def tn (m : Nat → Int) (i : Nat) : Nat := if tb m i = true then 1 else 0
theorem takenB_sum (m : Nat → Int) (k : Nat) : (takenB m k).length = sm (tn m) k := by
 induction k with
 | zero => rfl
 | succ k ih =>
   rw [takenB_succ, List.length_append, ih]
   show _ = sm (tn m) k + tn m k
   unfold tn
   cases tb m k <;> rfl
theorem sm_block (f : Nat → Nat) (a k : Nat) : sm f (a + k) = sm f a + sm (fun s => f (a + s)) k := by
 induction k with
 | zero => rfl
 | succ k ih => show sm f (a + k) + f (a + k) = sm f a + (sm (fun s => f (a + s)) k + f (a + k)); omega
theorem dg_bit (n : Int) (i : Nat) (h0 : 0 ≤ n) : dg n.toNat i = if bit n i = true then 1 else 0 := by
 rw [bit_testBit n i h0, Nat.testBit_eq_decide_div_mod_eq]
 unfold dg
 by_cases h : n.toNat / 2 ^ i % 2 = 1
 · rw [decide_eq_true h, if_pos rfl, h]
 · rw [decide_eq_false h, if_neg (by decide)]
   omega
def cntM (m : Nat → Int) (k : Nat) : Nat := (takenB m (k * 64)).length
theorem cntM_succ {m : Nat → Int} (hm : okM m) (k : Nat) : cntM m (k + 1) = cntM m k + pop (m k).toNat := by
 unfold cntM
 rw [show (k + 1) * 64 = k * 64 + 64 by omega, takenB_sum, sm_block, takenB_sum]
 congr 1
 unfold pop
 exact sm_congr 64 fun s hs => by rw [dg_bit _ _ (hm k).1]; unfold tn; rw [tb_at _ _ _ hs]
theorem cntM_le (m : Nat → Int) (k : Nat) : cntM m k ≤ k * 64 := takenB_len _ _
def orM (zs : Nat → Nat → Int) : Nat → Nat → Int
 | 0, _ => 0
 | k + 1, l => bits BinOp.or IntKind.u64 (orM zs k l) (zs k l)
theorem orM_ok {zs : Nat → Nat → Int} (h : ∀ k, okM (zs k)) (k : Nat) : okM (orM zs k) := by
 induction k with
 | zero => exact fun _ => ⟨Int.le_refl _, by show (0 : Int) < _; decide⟩
 | succ k ih => exact fun l => or64_bounds _ _ (ih l).1 (ih l).2 (h k l).1 (h k l).2
theorem orM_bit {zs : Nat → Nat → Int} (h : ∀ k, okM (zs k)) (k l s : Nat) : bit (orM zs k l) s = anyB (fun k => bit (zs k l) s) k := by
 induction k with
 | zero => exact bit_zero s
 | succ k ih =>
   show bit (bits BinOp.or IntKind.u64 (orM zs k l) (zs k l)) s = (anyB _ k || bit (zs k l) s)
   rw [bit_or64 _ _ _ (orM_ok h k l).1 (orM_ok h k l).2 (h k l).1 (h k l).2, ih]
def orJ (zs : Nat → Nat → Int) (k j l : Nat) : Int := if l < j then orM zs (k + 1) l else orM zs k l
theorem orJ_zero (zs : Nat → Nat → Int) (k : Nat) : orJ zs k 0 = orM zs k := by funext l; unfold orJ; rw [if_neg (Nat.not_lt_zero l)]
theorem ixOM_0 (m : Nat → Int) (w : World) : (Instr.index 24 (.agg (ol m).toArray) (.int .i64 ((0 : Nat) : Int))).run Try.prog w = .ok (.int .u64 (m 0)) w := by kernel_rfl
theorem ixOM_1 (m : Nat → Int) (w : World) : (Instr.index 24 (.agg (ol m).toArray) (.int .i64 ((1 : Nat) : Int))).run Try.prog w = .ok (.int .u64 (m 1)) w := by kernel_rfl
theorem ixOM_2 (m : Nat → Int) (w : World) : (Instr.index 24 (.agg (ol m).toArray) (.int .i64 ((2 : Nat) : Int))).run Try.prog w = .ok (.int .u64 (m 2)) w := by kernel_rfl
theorem ixOM_3 (m : Nat → Int) (w : World) : (Instr.index 24 (.agg (ol m).toArray) (.int .i64 ((3 : Nat) : Int))).run Try.prog w = .ok (.int .u64 (m 3)) w := by kernel_rfl
theorem ixOM_4 (m : Nat → Int) (w : World) : (Instr.index 24 (.agg (ol m).toArray) (.int .i64 ((4 : Nat) : Int))).run Try.prog w = .ok (.int .u64 (m 4)) w := by kernel_rfl
theorem ixOM_5 (m : Nat → Int) (w : World) : (Instr.index 24 (.agg (ol m).toArray) (.int .i64 ((5 : Nat) : Int))).run Try.prog w = .ok (.int .u64 (m 5)) w := by kernel_rfl
theorem ixOM_6 (m : Nat → Int) (w : World) : (Instr.index 24 (.agg (ol m).toArray) (.int .i64 ((6 : Nat) : Int))).run Try.prog w = .ok (.int .u64 (m 6)) w := by kernel_rfl
theorem ixOM_7 (m : Nat → Int) (w : World) : (Instr.index 24 (.agg (ol m).toArray) (.int .i64 ((7 : Nat) : Int))).run Try.prog w = .ok (.int .u64 (m 7)) w := by kernel_rfl
theorem ixOM (m : Nat → Int) (k : Nat) (hk : k < 8) (w : World) : (Instr.index 24 (.agg (ol m).toArray) (.int .i64 k)).run Try.prog w = .ok (.int .u64 (m k)) w := by
 have h : k = 0 ∨ k = 1 ∨ k = 2 ∨ k = 3 ∨ k = 4 ∨ k = 5 ∨ k = 6 ∨ k = 7 := by omega
 rcases h with rfl | rfl | rfl | rfl | rfl | rfl | rfl | rfl
 · exact ixOM_0 m w
 · exact ixOM_1 m w
 · exact ixOM_2 m w
 · exact ixOM_3 m w
 · exact ixOM_4 m w
 · exact ixOM_5 m w
 · exact ixOM_6 m w
 · exact ixOM_7 m w
set_option maxHeartbeats 3200000 in
theorem oCount (m : Nat → Int) (w : World) (hm : okM m) : Calls Try.prog 19 #[.agg (ol m).toArray] w fun e w' => e = .returned (.int .i64 (taken m).length) ∧ Below w.heap.size w w' := by
 have HA := Lib.hid (show OAt tOM (w.alloc (oO tOM m)) w.heap.size m from blk_new w _)
 have HB := Lib.hid (trA (tr0 w) (oO tOM m))
 have HM := Lib.hid hm
 have HE := Lib.hid (show cntM m 8 = (taken m).length from rfl)
 rw [← HE.out]
 clear HE hm
 go_enter Try.func19, Try.ntmps19
 go_upto_region 1 with (fail)
 rw [show Obj.cells (ol m).toArray 24 (0, 0) = oO tOM m from rfl]
 generalize w.alloc (oO tOM m) = W at *
 go_wp2_with (refine ldOM rfl (.tmp 1) rfl rfl HA.out ?_)
 go_loopw [3, 7] (fun c i wr => ∃ (k n : Nat), k ≤ 8 ∧ i = .int .i64 k ∧ c = .int .i64 n ∧ Hid (n = cntM m k) ∧ wr = W) (fun c i wr => 8 - (intOf i).toNat)
 case atStart => exact ⟨0, 0, by omega, rfl, rfl, Lib.hid rfl, rfl⟩
 case round =>
  obtain ⟨k, n, hk, rfl, rfl, HN, rfl⟩ := hrel
  by_cases hlt : k < 8
  · have hx := ixOM m k hlt
    obtain ⟨q, hq⟩ : ∃ q, pop (m k).toNat = q := ⟨_, rfl⟩
    have HN2 := Lib.hid (show n + q = cntM m (k + 1) by rw [cntM_succ HM.out, hq, HN.out])
    have b1 : n + q ≤ 512 := by rw [HN2.out]; exact Nat.le_trans (cntM_le m _) (by omega)
    have HO := Lib.hid (fun w' => oOnes (m k) w' (HM.out k).1 (HM.out k).2)
    rw [hq] at HO
    generalize m k = mk at hx HO
    clear hq
    go_wp2_with (go_at_call 27; refine (HO.out _).mono ?_; rintro e w1 ⟨rfl, rfl⟩)
    go_roundw
    case rel => exact ⟨k + 1, n + q, by omega, by go_num, by go_num, HN2, trivial⟩
    case measure => simp [intOf]; omega
  · obtain rfl : k = 8 := by omega
    go_wp2_with fail
    go_ret
    exact ⟨by rw [← HN.out]; rfl, HB.out⟩
structure OrAt (w0 w : World) (M : Nat → Int) : Prop where
 R : OAt tOM w w0.heap.size (fun _ => 0)
 M : OAt tOM w (w0.heap.size + 1) M
 lo : Below w0.heap.size w0 w
theorem OrAt.below {w0 w w' : World} {M : Nat → Int} (h : OrAt w0 w M) (hb : Below w.heap.size w w') : OrAt w0 w' M := ⟨h.R.below hb, h.M.below hb, tr h.lo hb⟩
theorem OrAt.off {w0 w w' : World} {M : Nat → Int} {b : Nat} (h : OrAt w0 w M) (ho : Off (· = b) w w') (hb : w0.heap.size + 1 < b) : OrAt w0 w' M := ⟨h.R.off ho (by omega), h.M.off ho (by omega), Off.toBelow h.lo ho (fun j hj e => by omega) (Nat.le_refl _)⟩
theorem OrAt.put {w0 w : World} {zs : Nat → Nat → Int} {k j : Nat} (h : OrAt w0 w (orJ zs k j)) (hj : j < 8) {v : Int} (hv : v = orM zs (k + 1) j) : OrAt w0 (w.setCell ⟨w0.heap.size + 1, j, none⟩ (.int .u64 v)) (orJ zs k (j + 1)) :=
 ⟨h.R.else _ _ _ (by omega), (h.M.set j v).congr fun i _ => by
  subst hv
  unfold upd orJ
  by_cases e : i = j
  · rw [if_pos e, if_pos (by omega), e]
  · rw [if_neg e]
    by_cases h2 : i < j
    · rw [if_pos h2, if_pos (by omega)]
    · rw [if_neg h2, if_neg (by omega)], h.lo.setCell (p := ⟨w0.heap.size + 1, j, none⟩) (by show w0.heap.size ≤ w0.heap.size + 1; omega) _⟩
theorem OrAt.next {w0 w : World} {zs : Nat → Nat → Int} {k : Nat} (h : OrAt w0 w (orJ zs k 8)) : OrAt w0 w (orM zs (k + 1)) :=
 ⟨h.R, h.M.congr fun i hi => by unfold orJ; rw [if_pos hi], h.lo⟩
set_option maxHeartbeats 6400000 in
theorem oOr (y : Option Addr) (len cap : Nat) (zs : Nat → Nat → Int) (w : World) (hy : RowM w y len cap zs) (hl : len ≤ 5) : Calls Try.prog 20 #[.slice y len cap] w fun e w' => ∃ M, e = .returned (.agg (ol M).toArray) ∧ okM M ∧ (∀ l s, l < 8 → s < 64 → bit (M l) s = anyB (fun k => bit (zs k l) s) len) ∧ Below w.heap.size w w' := by
 have HZ := Lib.hid hy.1
 suffices h : Calls Try.prog 20 #[.slice y len cap] w fun e w' => e = .returned (.agg (ol (orM zs len)).toArray) ∧ Below w.heap.size w w' from
  h.mono fun e w' ⟨h1, h2⟩ => ⟨_, h1, orM_ok HZ.out len, fun l s _ _ => orM_bit HZ.out len l s, h2⟩
 have HA := Lib.hid (show OrAt w ((w.alloc (oO tOM fun _ => 0)).alloc (oO tOM fun _ => 0)) (orM zs 0) from ⟨b2_0 w _ _, b2_1 w _ _, trA (trA (tr0 w) _) _⟩)
 go_enter Try.func20, Try.ntmps20
 go_upto_region 2 with (fail)
 rw [zeros8, show Obj.cells (ol fun _ => 0).toArray 24 (0, 0) = oO tOM (fun _ => 0) from rfl]
 generalize (w.alloc (oO tOM fun _ => 0)).alloc (oO tOM fun _ => 0) = W at *
 have HY := Lib.hid hy
 clear hy
 go_wp2_with fail
 go_loopw [10] (fun i wr => ∃ (k : Nat), k ≤ len ∧ i = .int .i64 k ∧ Hid (OrAt w wr (orM zs k))) (fun i wr => len - (intOf i).toNat)
 case atStart => exact ⟨0, by omega, rfl, HA⟩
 case round =>
  clear HA
  obtain ⟨k, hk, rfl, HA⟩ := hrel
  by_cases hlt : k < len
  · obtain ⟨g, off, rfl, c1, c2, c3, HR⟩ := HY.out.at (by omega)
    have HI := Lib.hid ((HR k hlt).below HA.out.lo)
    clear HR
    rename_i wr
    have HBX := Lib.hid (show w.heap.size + 1 < wr.heap.size from HA.out.M.lt)
    have hk0 : 0 ≤ (k : Int) := by omega
    have hk1 : (k : Int) < (len : Int) := by omega
    go_upto_region 5 with (first
     | (refine ldIn rfl (.tmp 12) rfl rfl HI.out ?_)
     | (rw [zeros8]; refine stOM rfl (.tmp 5) (.tmp 13) rfl rfl rfl (show OAt tOM (wr.alloc (oO tOM fun _ => 0)) wr.heap.size (fun _ => 0) from blk_new wr _) ?_; intro w3 h3 ho; have HM := Lib.hid h3; have HA := Lib.hid ((HA.out.below (trA (tr0 wr) (oO tOM fun _ => 0))).off ho HBX.out); clear h3 ho))
    have HA := Lib.hid (show OrAt w w3 (orJ zs k 0) by rw [orJ_zero]; exact HA.out)
    clear HI HBX hk0 hk1
    go_wp2_with (refine ldOM rfl (.tmp 5) rfl rfl HM.out ?_)
    go_loopw [15] (fun i wr => ∃ (j : Nat), j ≤ 8 ∧ i = .int .i64 j ∧ Hid (OrAt w wr (orJ zs k j))) (fun i wr => 8 - (intOf i).toNat)
    case atStart => exact ⟨0, by omega, rfl, HA⟩
    case round =>
     clear HA HM
     obtain ⟨j, hj, rfl, HA⟩ := hrel
     by_cases hjt : j < 8
     · have hx := ixOM (zs k) j hjt
       have c := HA.out.M.c j hjt
       have f := HA.out.M.free j
       have hl2 := HA.out.M.lt
       have e1 : orJ zs k j j = orM zs k j := by unfold orJ; rw [if_neg (Nat.lt_irrefl j)]
       rw [e1] at c
       obtain ⟨a, ha⟩ : ∃ a, orM zs k j = a := ⟨_, rfl⟩
       obtain ⟨b, hb⟩ : ∃ b, zs k j = b := ⟨_, rfl⟩
       obtain ⟨v, hv⟩ : ∃ v, bits BinOp.or IntKind.u64 a b = v := ⟨_, rfl⟩
       have HP := Lib.hid (HA.out.put hjt (show v = orM zs (k + 1) j by rw [← hv, ← ha, ← hb]; rfl))
       rw [ha] at c
       simp only [hb] at hx
       clear e1 ha hb
       have hj0 : 0 ≤ (j : Int) := by omega
       have hj1 : (j : Int) < 8 := by omega
       go_wp2_with fail
       go_roundw
       case rel => exact ⟨j + 1, by omega, by go_num, HP⟩
       case measure => simp [intOf]; omega
     · obtain rfl : j = 8 := by omega
       have HN := Lib.hid HA.out.next
       go_wp2_with fail
       go_roundw
       case rel => exact ⟨k + 1, by omega, by go_num, HN⟩
       case measure => simp [intOf]; omega
  · obtain rfl : k = len := by omega
    have HX := Lib.hid HA.out.lo
    have HM := Lib.hid HA.out.M
    have HR := Lib.hid HA.out.R
    clear HA HY
    go_wp2_with (first
     | (refine ldOM rfl (.tmp 3) rfl rfl HM.out ?_)
     | (refine stOM rfl (.tmp 2) (.tmp 27) rfl rfl rfl HR.out ?_; intro w1 h1 ho; have HQ := Lib.hid h1; have HY := Lib.hid (Off.toBelow HX.out ho (fun j hj e => by omega) (Nat.le_refl _)); clear h1 ho))
    exact bodyPost_ret (resOM rfl _ _ rfl HQ.out) rfl ⟨rfl, HY.out⟩
end Go.Proofs.Ytgfoeiikocpmdaa.B
namespace Go.Proofs.Ytgfoeiikocpmdaa.B
set_option linter.unusedVariables false
set_option linter.unusedSimpArgs false
open Go.RowKit Go.Sort
section
variable {P : Program} {ops : Array Oper} {md : Region.Mode} {C : World → Prop}
end
end Go.Proofs.Ytgfoeiikocpmdaa.B
namespace Go.Proofs.Ytgfoeiikocpmdaa.B
set_option linter.unusedVariables false
set_option linter.unusedSimpArgs false
open Go.ChangeShapes Go.WideShapes Go.RowKit Go.Sort
section
variable {P : Program}
theorem run_load_part {o : Oper} {f : Operand → Value} {w : World} (ty : TypeId) (x : Operand) (ho : o.op = .load ty x)
 (g off : Nat) (hx : f x = .pointer (some ⟨g, off, none⟩)) {t : TypeId} {cs : Array Value} {fr : Nat × Nat} (d : TypeDesc) (vs : List Value) (hg : w.heap[g]? = some (.cells cs t fr))
 (hu : P.underlying ty = some d) (hd : (match d with | .struct _ | .array _ _ => true | _ => false) = true) (hi : (P.info? ty).map (·.size) = some vs.length) (hp : PartAt cs off vs) :
 (execOp f o).run P w = .ok (.value (.agg vs.toArray)) w := by
 unfold execOp
 simp only [ho, hx, Instr.loadAt, Instr.sureAddr, Sem.run_bind, Sem.run_pure, Result.andThen_ok, loadVar_part w g off t ty cs fr d vs hg hu hd hi hp]
end
theorem step_store_part {P : Program} {ops : Array Oper} {o : Oper} {a : Act} {w : World} {K : Act → World → Prop} {Q : Exit → Act → World → Prop} {E : Prop} (hgd : o.guard = none) (ty : TypeId) (x y : Operand) (ho : o.op = .store ty x y)
 (g off : Nat) (hx : a.eval x = .pointer (some ⟨g, off, none⟩)) (vs : List Value) (hy : a.eval y = .agg vs.toArray) {t : TypeId} {cs : Array Value} (hg : w.heap[g]? = some (.cells cs t (0, 0)))
 (hi : (P.info? ty).map (·.size) = some vs.length) (hl : off + vs.length ≤ cs.size) (h1 : ∀ v ∈ vs, v.oneCell' = true)
 (h : K (a.put o.dst undef) (w.setRow g (spliced cs off vs))) : if Region.wanted o (yielded ops a.tmps) = true then Oper.wp P o a w K Q else E := by
 rw [if_pos (by simp [Region.wanted, hgd])]
 unfold Oper.wp execOp
 simp only [ho, hx, hy, Instr.storeAt, Instr.sureAddr, Sem.run_bind, Sem.run_pure, Result.andThen_ok, storeVar_part w g off t ty cs vs hg hi hl h1]
 exact h
end Go.Proofs.Ytgfoeiikocpmdaa.B
