/- Several texts in one: Layer 15, package occ: Set, Drop, Has, Next (written by gen_ocode2.py). Layer 15, package occ: the iterator over what is taken. -/
import Derived.Test.YtgfoeiikocpmdaaZAab
import Derived.Test.YtgfoeiikocpmdaaZAad
import Derived.Deep.Cut
import Derived.RangeFuncFrom
import Derived.RangeFuncCalls
import Derived.RangeFuncLeaves
import Derived.TacticsInMore
import Derived.OwnWalkIn
namespace Go.Proofs.Ytgfoeiikocpmdaa.B
set_option linter.unusedVariables false
set_option linter.unusedSimpArgs false
set_option maxRecDepth 100000
open Go.ChangeShapes Go.WideShapes Go.RowKit Go.Sort
theorem ld_word {w : World} {p : Addr} {v : Int} (c : w.cell? p = some (.int .u64 v)) : (loadVar 22 p).run Try.prog w = .ok (.int .u64 v) w := by
 simp [go_sem, loadVar, Try.underlying22, c]
theorem qldW {C : World → Prop} {o : Oper} {a : Act} {K : Act → Prop} (x : Operand) (ho : o.op = .load 22 x) {g k : Nat} (hx : a.eval x = .pointer (some ⟨g, k, none⟩)) {T : TypeId} {m : Nat → Int} (hk : k < 8) {v : Int} (hv : m k = v) (hg : ∀ w, C w → OAt T w g m)
 (h : K (a.put o.dst (.int .u64 v))) : o.quiet Try.prog a C K :=
 ⟨_, fun w hw => by
  have c := (hg w hw).c k hk
  rw [hv] at c
  unfold Oper.quietAt execOp
  simp only [ho, hx, Instr.loadAt, Instr.sureAddr, Sem.run_bind, Sem.run_pure, Result.andThen_ok, ld_word c]
  exact ⟨rfl, rfl⟩, h⟩
theorem inS_two (l s : Int) : inS l s = ((decide (0 ≤ l) && decide (l < 8)) && (decide (0 ≤ s) && decide (s < 64))) := by
 unfold inS
 rw [Bool.eq_iff_iff]
 simp
 omega
set_option maxHeartbeats 3200000 in
theorem oSet (m : Nat → Int) (l s : Int) (w : World) (hm : okM m) : Calls Try.prog 7 #[.agg (ol m).toArray, .int .i64 l, .int .i64 s] w fun e w' => e = .returned (.agg (ol (mput m l s true)).toArray) ∧ Below w.heap.size w w' := by
 have HA := Lib.hid (show OAt tOM ((w.alloc (oO tOM m)).alloc (oO tOM fun _ => 0)) w.heap.size m from b2_0 w _ _)
 have HR := Lib.hid (show OAt tOM ((w.alloc (oO tOM m)).alloc (oO tOM fun _ => 0)) (w.heap.size + 1) (fun _ => 0) from b2_1 w _ _)
 have HB := Lib.hid (trA (trA (tr0 w) (oO tOM m)) (oO tOM fun _ => 0))
 have HL := Lib.hid (fun w' => oIsLevel l w')
 have HS := Lib.hid (fun w' => oIsSlot s w')
 unfold mput
 rw [inS_two]
 cases hl : (decide (0 ≤ l) && decide (l < 8))
 · rw [hl] at HL
   rw [if_neg (by simp)]
   clear hl HS hm
   go_enter Try.func7, Try.ntmps7
   go_upto_region 1 with (fail)
   rw [zeros8, show Obj.cells (ol m).toArray 24 (0, 0) = oO tOM m from rfl, show Obj.cells (ol fun _ => 0).toArray 24 (0, 0) = oO tOM (fun _ => 0) from rfl]
   generalize (w.alloc (oO tOM m)).alloc (oO tOM fun _ => 0) = W at *
   go_wp2_with (first
    | (go_at_call 21; refine (HL.out _).mono ?_; rintro e w1 ⟨rfl, rfl⟩)
    | (refine ldOM rfl (.tmp 3) rfl rfl HA.out ?_)
    | (refine stOM rfl (.tmp 6) (.tmp 20) rfl rfl rfl HR.out ?_; intro w1 h1 ho; have HQ := Lib.hid h1; have HY := Lib.hid (Off.toBelow HB.out ho (fun j hj e => by omega) (Nat.le_refl _)); clear h1 ho))
   exact bodyPost_ret (resOM rfl _ _ rfl HQ.out) rfl ⟨rfl, HY.out⟩
 · cases hs : (decide (0 ≤ s) && decide (s < 64))
   · rw [hl] at HL
     rw [hs] at HS
     rw [if_neg (by simp)]
     clear hl hs hm
     go_enter Try.func7, Try.ntmps7
     go_upto_region 1 with (fail)
     rw [zeros8, show Obj.cells (ol m).toArray 24 (0, 0) = oO tOM m from rfl, show Obj.cells (ol fun _ => 0).toArray 24 (0, 0) = oO tOM (fun _ => 0) from rfl]
     generalize (w.alloc (oO tOM m)).alloc (oO tOM fun _ => 0) = W at *
     go_wp2_with (first
      | (go_at_call 21; refine (HL.out _).mono ?_; rintro e w1 ⟨rfl, rfl⟩)
      | (go_at_call 22; refine (HS.out _).mono ?_; rintro e w1 ⟨rfl, rfl⟩)
      | (refine ldOM rfl (.tmp 3) rfl rfl HA.out ?_)
      | (refine stOM rfl (.tmp 6) (.tmp 20) rfl rfl rfl HR.out ?_; intro w1 h1 ho; have HQ := Lib.hid h1; have HY := Lib.hid (Off.toBelow HB.out ho (fun j hj e => by omega) (Nat.le_refl _)); clear h1 ho))
     exact bodyPost_ret (resOM rfl _ _ rfl HQ.out) rfl ⟨rfl, HY.out⟩
   · rw [hl] at HL
     rw [hs] at HS
     rw [if_pos (show (true && true) = true from rfl)]
     obtain ⟨h0, h1⟩ : 0 ≤ l ∧ l < 8 := by simpa using hl
     obtain ⟨h2, h3⟩ : 0 ≤ s ∧ s < 64 := by simpa using hs
     clear hl hs
     obtain ⟨k, rfl⟩ := Int.eq_ofNat_of_zero_le h0
     have HX := Lib.hid (fun w' => oBit s w' h2 h3)
     obtain ⟨t, ht⟩ : ∃ t, s.toNat = t := ⟨_, rfl⟩
     obtain ⟨p, hp⟩ : ∃ p, (2 : Int) ^ t = p := ⟨_, rfl⟩
     obtain ⟨n, hn⟩ : ∃ n, m k = n := ⟨_, rfl⟩
     obtain ⟨v, hv⟩ : ∃ v, bits BinOp.or IntKind.u64 n p = v := ⟨_, rfl⟩
     have HV := Lib.hid (show v = wput (m k) t true by rw [← hv, ← hp, hn]; exact or_pow n t (by omega) (hn ▸ (hm k).1) (hn ▸ (hm k).2))
     simp only [ht] at HX ⊢
     simp only [hp] at HX
     simp only [Int.toNat_natCast]
     rw [← HV.out]
     clear hm ht hp HV
     go_enter Try.func7, Try.ntmps7
     go_upto_region 1 with (fail)
     rw [zeros8, show Obj.cells (ol m).toArray 24 (0, 0) = oO tOM m from rfl, show Obj.cells (ol fun _ => 0).toArray 24 (0, 0) = oO tOM (fun _ => 0) from rfl]
     generalize (w.alloc (oO tOM m)).alloc (oO tOM fun _ => 0) = W at *
     have c := HA.out.c k (by omega)
     rw [hn] at c
     have f := HA.out.free k
     have hlt := HA.out.lt
     have g1 : 0 ≤ (k : Int) := by omega
     go_upto_region 2 with (first
      | (go_at_call 21; refine (HL.out _).mono ?_; rintro e w1 ⟨rfl, rfl⟩)
      | (go_at_call 22; refine (HS.out _).mono ?_; rintro e w1 ⟨rfl, rfl⟩))
     refine wp_region_tail_below 6 (by kernel_rfl) (by kernel_rfl) ?_
     simp only [List.take_succ_cons, List.take_zero, List.drop_succ_cons, List.drop_zero]
     repeat (first
      | go_big_quiet_skip
      | (go_big_quiet_want; first
       | (refine qldW (.tmp 14) rfl rfl (by omega) hn HA.out.grown ?_; go_simp; go_big_quiet_on)
       | (go_big_quiet_op; first | go_big_quiet_on | go_big_quiet_call (first | (go_at_call 23; exact Calls.regrown_of ((HX.out _).mono fun _ _ h => ⟨h.1, h.2 ▸ tr0 _⟩)))))
      | (refine wpQuiet_nil ?_))
     intro _ hw'
     obtain ⟨⟨dq, osq⟩, hw''⟩ := hw'
     subst hw''
     have hb := below_regrown W dq osq
     have HA := Lib.hid (HA.out.below hb)
     have HR := Lib.hid (HR.out.below hb)
     have HB := Lib.hid (tr HB.out hb)
     clear hb c f hlt
     dsimp only at HA HR HB ⊢
     generalize grow (redrawn W dq) osq = W3 at *
     have c := HA.out.c k (by omega)
     have f := HA.out.free k
     have hlt := HA.out.lt
     go_upto_region 3 with (fail)
     clear c f hlt
     have hHA := HA.out.set k v
     have hHR := HR.out.else w.heap.size k (.int .u64 v) (by omega)
     have hHB := HB.out.setCell (p := ⟨w.heap.size, k, none⟩) (Nat.le_refl _) (.int .u64 v)
     have HA := Lib.hid hHA
     have HR := Lib.hid hHR
     have HB := Lib.hid hHB
     clear hHA hHR hHB hn hv
     generalize W3.setCell ⟨w.heap.size, k, none⟩ (.int .u64 v) = W4 at *
     go_wp2_with (first
      | (refine ldOM rfl (.tmp 3) rfl rfl HA.out ?_)
      | (refine stOM rfl (.tmp 6) (.tmp 20) rfl rfl rfl HR.out ?_; intro w1 h1 ho; have HQ := Lib.hid h1; have HY := Lib.hid (Off.toBelow HB.out ho (fun j hj e => by omega) (Nat.le_refl _)); clear h1 ho))
     exact bodyPost_ret (resOM rfl _ _ rfl HQ.out) rfl ⟨rfl, HY.out⟩
set_option maxHeartbeats 3200000 in
theorem oDrop (m : Nat → Int) (l s : Int) (w : World) (hm : okM m) : Calls Try.prog 8 #[.agg (ol m).toArray, .int .i64 l, .int .i64 s] w fun e w' => e = .returned (.agg (ol (mput m l s false)).toArray) ∧ Below w.heap.size w w' := by
 have HA := Lib.hid (show OAt tOM ((w.alloc (oO tOM m)).alloc (oO tOM fun _ => 0)) w.heap.size m from b2_0 w _ _)
 have HR := Lib.hid (show OAt tOM ((w.alloc (oO tOM m)).alloc (oO tOM fun _ => 0)) (w.heap.size + 1) (fun _ => 0) from b2_1 w _ _)
 have HB := Lib.hid (trA (trA (tr0 w) (oO tOM m)) (oO tOM fun _ => 0))
 have HL := Lib.hid (fun w' => oIsLevel l w')
 have HS := Lib.hid (fun w' => oIsSlot s w')
 unfold mput
 rw [inS_two]
 cases hl : (decide (0 ≤ l) && decide (l < 8))
 · rw [hl] at HL
   rw [if_neg (by simp)]
   clear hl HS hm
   go_enter Try.func8, Try.ntmps8
   go_upto_region 1 with (fail)
   rw [zeros8, show Obj.cells (ol m).toArray 24 (0, 0) = oO tOM m from rfl, show Obj.cells (ol fun _ => 0).toArray 24 (0, 0) = oO tOM (fun _ => 0) from rfl]
   generalize (w.alloc (oO tOM m)).alloc (oO tOM fun _ => 0) = W at *
   go_wp2_with (first
    | (go_at_call 21; refine (HL.out _).mono ?_; rintro e w1 ⟨rfl, rfl⟩)
    | (refine ldOM rfl (.tmp 3) rfl rfl HA.out ?_)
    | (refine stOM rfl (.tmp 6) (.tmp 20) rfl rfl rfl HR.out ?_; intro w1 h1 ho; have HQ := Lib.hid h1; have HY := Lib.hid (Off.toBelow HB.out ho (fun j hj e => by omega) (Nat.le_refl _)); clear h1 ho))
   exact bodyPost_ret (resOM rfl _ _ rfl HQ.out) rfl ⟨rfl, HY.out⟩
 · cases hs : (decide (0 ≤ s) && decide (s < 64))
   · rw [hl] at HL
     rw [hs] at HS
     rw [if_neg (by simp)]
     clear hl hs hm
     go_enter Try.func8, Try.ntmps8
     go_upto_region 1 with (fail)
     rw [zeros8, show Obj.cells (ol m).toArray 24 (0, 0) = oO tOM m from rfl, show Obj.cells (ol fun _ => 0).toArray 24 (0, 0) = oO tOM (fun _ => 0) from rfl]
     generalize (w.alloc (oO tOM m)).alloc (oO tOM fun _ => 0) = W at *
     go_wp2_with (first
      | (go_at_call 21; refine (HL.out _).mono ?_; rintro e w1 ⟨rfl, rfl⟩)
      | (go_at_call 22; refine (HS.out _).mono ?_; rintro e w1 ⟨rfl, rfl⟩)
      | (refine ldOM rfl (.tmp 3) rfl rfl HA.out ?_)
      | (refine stOM rfl (.tmp 6) (.tmp 20) rfl rfl rfl HR.out ?_; intro w1 h1 ho; have HQ := Lib.hid h1; have HY := Lib.hid (Off.toBelow HB.out ho (fun j hj e => by omega) (Nat.le_refl _)); clear h1 ho))
     exact bodyPost_ret (resOM rfl _ _ rfl HQ.out) rfl ⟨rfl, HY.out⟩
   · rw [hl] at HL
     rw [hs] at HS
     rw [if_pos (show (true && true) = true from rfl)]
     obtain ⟨h0, h1⟩ : 0 ≤ l ∧ l < 8 := by simpa using hl
     obtain ⟨h2, h3⟩ : 0 ≤ s ∧ s < 64 := by simpa using hs
     clear hl hs
     obtain ⟨k, rfl⟩ := Int.eq_ofNat_of_zero_le h0
     have HX := Lib.hid (fun w' => oBit s w' h2 h3)
     obtain ⟨t, ht⟩ : ∃ t, s.toNat = t := ⟨_, rfl⟩
     obtain ⟨p, hp⟩ : ∃ p, (2 : Int) ^ t = p := ⟨_, rfl⟩
     obtain ⟨n, hn⟩ : ∃ n, m k = n := ⟨_, rfl⟩
     obtain ⟨v, hv⟩ : ∃ v, bits BinOp.andNot IntKind.u64 n p = v := ⟨_, rfl⟩
     have HV := Lib.hid (show v = wput (m k) t false by rw [← hv, ← hp, hn]; exact andNot_pow n t (by omega) (hn ▸ (hm k).1) (hn ▸ (hm k).2))
     simp only [ht] at HX ⊢
     simp only [hp] at HX
     simp only [Int.toNat_natCast]
     rw [← HV.out]
     clear hm ht hp HV
     go_enter Try.func8, Try.ntmps8
     go_upto_region 1 with (fail)
     rw [zeros8, show Obj.cells (ol m).toArray 24 (0, 0) = oO tOM m from rfl, show Obj.cells (ol fun _ => 0).toArray 24 (0, 0) = oO tOM (fun _ => 0) from rfl]
     generalize (w.alloc (oO tOM m)).alloc (oO tOM fun _ => 0) = W at *
     have c := HA.out.c k (by omega)
     rw [hn] at c
     have f := HA.out.free k
     have hlt := HA.out.lt
     have g1 : 0 ≤ (k : Int) := by omega
     go_upto_region 2 with (first
      | (go_at_call 21; refine (HL.out _).mono ?_; rintro e w1 ⟨rfl, rfl⟩)
      | (go_at_call 22; refine (HS.out _).mono ?_; rintro e w1 ⟨rfl, rfl⟩))
     refine wp_region_tail_below 6 (by kernel_rfl) (by kernel_rfl) ?_
     simp only [List.take_succ_cons, List.take_zero, List.drop_succ_cons, List.drop_zero]
     repeat (first
      | go_big_quiet_skip
      | (go_big_quiet_want; first
       | (refine qldW (.tmp 14) rfl rfl (by omega) hn HA.out.grown ?_; go_simp; go_big_quiet_on)
       | (go_big_quiet_op; first | go_big_quiet_on | go_big_quiet_call (first | (go_at_call 23; exact Calls.regrown_of ((HX.out _).mono fun _ _ h => ⟨h.1, h.2 ▸ tr0 _⟩)))))
      | (refine wpQuiet_nil ?_))
     intro _ hw'
     obtain ⟨⟨dq, osq⟩, hw''⟩ := hw'
     subst hw''
     have hb := below_regrown W dq osq
     have HA := Lib.hid (HA.out.below hb)
     have HR := Lib.hid (HR.out.below hb)
     have HB := Lib.hid (tr HB.out hb)
     clear hb c f hlt
     dsimp only at HA HR HB ⊢
     generalize grow (redrawn W dq) osq = W3 at *
     have c := HA.out.c k (by omega)
     have f := HA.out.free k
     have hlt := HA.out.lt
     go_upto_region 3 with (fail)
     clear c f hlt
     have hHA := HA.out.set k v
     have hHR := HR.out.else w.heap.size k (.int .u64 v) (by omega)
     have hHB := HB.out.setCell (p := ⟨w.heap.size, k, none⟩) (Nat.le_refl _) (.int .u64 v)
     have HA := Lib.hid hHA
     have HR := Lib.hid hHR
     have HB := Lib.hid hHB
     clear hHA hHR hHB hn hv
     generalize W3.setCell ⟨w.heap.size, k, none⟩ (.int .u64 v) = W4 at *
     go_wp2_with (first
      | (refine ldOM rfl (.tmp 3) rfl rfl HA.out ?_)
      | (refine stOM rfl (.tmp 6) (.tmp 20) rfl rfl rfl HR.out ?_; intro w1 h1 ho; have HQ := Lib.hid h1; have HY := Lib.hid (Off.toBelow HB.out ho (fun j hj e => by omega) (Nat.le_refl _)); clear h1 ho))
     exact bodyPost_ret (resOM rfl _ _ rfl HQ.out) rfl ⟨rfl, HY.out⟩
set_option maxHeartbeats 3200000 in
theorem oHas (m : Nat → Int) (l s : Int) (w : World) (hm : okM m) : Calls Try.prog 13 #[.agg (ol m).toArray, .int .i64 l, .int .i64 s] w fun e w' => e = .returned (.bool (mhas m l s)) ∧ Below w.heap.size w w' := by
 have HA := Lib.hid (show OAt tOM (w.alloc (oO tOM m)) w.heap.size m from blk_new w _)
 have HB := Lib.hid (trA (tr0 w) (oO tOM m))
 have HL := Lib.hid (fun w' => oIsLevel l w')
 have HS := Lib.hid (fun w' => oIsSlot s w')
 unfold mhas
 rw [inS_two]
 cases hl : (decide (0 ≤ l) && decide (l < 8))
 · rw [hl] at HL
   rw [Bool.false_and, Bool.false_and]
   clear hl HS hm
   go_enter Try.func13, Try.ntmps13
   go_upto_region 1 with (fail)
   rw [show Obj.cells (ol m).toArray 24 (0, 0) = oO tOM m from rfl]
   generalize w.alloc (oO tOM m) = W at *
   go_quiet ((first
    | (go_at_call 21; exact Calls.quiet_of_same ((HL.out _).mono fun _ _ h => ⟨h.1, h.2.symm⟩))))
   have HB := Lib.hid (trN HB.out nq)
   go_wp2_with fail
   go_ret
   exact ⟨rfl, HB.out⟩
 · cases hs : (decide (0 ≤ s) && decide (s < 64))
   · rw [hl] at HL
     rw [hs] at HS
     rw [Bool.true_and, Bool.false_and]
     clear hl hs hm
     go_enter Try.func13, Try.ntmps13
     go_upto_region 1 with (fail)
     rw [show Obj.cells (ol m).toArray 24 (0, 0) = oO tOM m from rfl]
     generalize w.alloc (oO tOM m) = W at *
     go_quiet ((first
     | (go_at_call 21; exact Calls.quiet_of_same ((HL.out _).mono fun _ _ h => ⟨h.1, h.2.symm⟩))
     | (go_at_call 22; exact Calls.quiet_of_same ((HS.out _).mono fun _ _ h => ⟨h.1, h.2.symm⟩))))
     have HB := Lib.hid (trN HB.out nq)
     go_wp2_with fail
     go_ret
     exact ⟨rfl, HB.out⟩
   · rw [hl] at HL
     rw [hs] at HS
     rw [Bool.true_and, Bool.true_and]
     obtain ⟨h0, h1⟩ : 0 ≤ l ∧ l < 8 := by simpa using hl
     obtain ⟨h2, h3⟩ : 0 ≤ s ∧ s < 64 := by simpa using hs
     clear hl hs
     obtain ⟨k, rfl⟩ := Int.eq_ofNat_of_zero_le h0
     have HX := Lib.hid (fun w' => oBit s w' h2 h3)
     obtain ⟨t, ht⟩ : ∃ t, s.toNat = t := ⟨_, rfl⟩
     obtain ⟨p, hp⟩ : ∃ p, (2 : Int) ^ t = p := ⟨_, rfl⟩
     obtain ⟨n, hn⟩ : ∃ n, m k = n := ⟨_, rfl⟩
     obtain ⟨v, hv⟩ : ∃ v, (bits BinOp.and IntKind.u64 n p != 0) = v := ⟨_, rfl⟩
     have HV := Lib.hid (show v = bit (m k) t by rw [← hv, ← hp, hn]; exact and_pow n t (by omega) (hn ▸ (hm k).1) (hn ▸ (hm k).2))
     simp only [ht] at HX ⊢
     simp only [hp] at HX
     simp only [Int.toNat_natCast]
     rw [← HV.out]
     clear hm ht hp HV
     go_enter Try.func13, Try.ntmps13
     go_upto_region 1 with (fail)
     rw [show Obj.cells (ol m).toArray 24 (0, 0) = oO tOM m from rfl]
     generalize w.alloc (oO tOM m) = W at *
     have c := HA.out.c k (by omega)
     rw [hn] at c
     have f := HA.out.free k
     have hlt := HA.out.lt
     clear hn
     go_quiet ((first
     | (go_at_call 21; exact Calls.quiet_of_same ((HL.out _).mono fun _ _ h => ⟨h.1, h.2.symm⟩))
     | (go_at_call 22; exact Calls.quiet_of_same ((HS.out _).mono fun _ _ h => ⟨h.1, h.2.symm⟩))
     | (go_at_call 23; exact Calls.quiet_of_same ((HX.out _).mono fun _ _ h => ⟨h.1, h.2.symm⟩))))
     have HB := Lib.hid (trN HB.out nq)
     go_wp2_with fail
     go_ret
     exact ⟨rfl, HB.out⟩
set_option maxHeartbeats 3200000 in
theorem oNext (m : Nat → Int) (l f : Int) (w : World) (hm : okM m) (hf : i64r f) : Calls Try.prog 14 #[.agg (ol m).toArray, .int .i64 l, .int .i64 f] w fun e w' => e = .returned (.int .i64 (mnext m l f)) ∧ Below w.heap.size w w' := by
 have HA := Lib.hid (show OAt tOM (w.alloc (oO tOM m)) w.heap.size m from blk_new w _)
 have HB := Lib.hid (trA (tr0 w) (oO tOM m))
 have HL := Lib.hid (fun w' => oIsLevel l w')
 unfold mnext
 cases hl : (decide (0 ≤ l) && decide (l < 8))
 · rw [hl] at HL
   rw [if_neg (fun h => by rw [decide_eq_true h.1, decide_eq_true h.2] at hl; cases hl)]
   clear hl hm hf
   go_enter Try.func14, Try.ntmps14
   go_upto_region 1 with (fail)
   rw [show Obj.cells (ol m).toArray 24 (0, 0) = oO tOM m from rfl]
   generalize w.alloc (oO tOM m) = W at *
   go_wp2_with (go_at_call 21; refine (HL.out _).mono ?_; rintro e w1 ⟨rfl, rfl⟩)
   go_ret
   exact ⟨rfl, HB.out⟩
 · rw [hl] at HL
   obtain ⟨h0, h1⟩ : 0 ≤ l ∧ l < 8 := by simpa using hl
   rw [if_pos ⟨h0, h1⟩]
   clear hl
   obtain ⟨k, rfl⟩ := Int.eq_ofNat_of_zero_le h0
   have HF := Lib.hid (fun w' => First (m k) f w' (hm k).1 (hm k).2 hf.1 hf.2)
   obtain ⟨n, hn⟩ : ∃ n, m k = n := ⟨_, rfl⟩
   simp only [Int.toNat_natCast]
   rw [hn] at HF ⊢
   clear hm hf
   go_enter Try.func14, Try.ntmps14
   go_upto_region 1 with (fail)
   rw [show Obj.cells (ol m).toArray 24 (0, 0) = oO tOM m from rfl]
   generalize w.alloc (oO tOM m) = W at *
   have c := HA.out.c k (by omega)
   rw [hn] at c
   have f := HA.out.free k
   have hlt := HA.out.lt
   clear hn
   go_wp2_with (first
    | (go_at_call 21; refine (HL.out _).mono ?_; rintro e w1 ⟨rfl, rfl⟩)
    | (go_at_call 24; refine (HF.out _).mono ?_; rintro e w1 ⟨rfl, hb⟩; have HB := Lib.hid (tr HB.out hb); clear hb))
   go_ret
   exact ⟨rfl, HB.out⟩
attribute [local go_sem] Oper.semAt_some
theorem takenB_skip (m : Nat → Int) (a b : Nat) (h : a ≤ b) (hn : ∀ i, a ≤ i → i < b → tb m i = false) : takenB m b = takenB m a := by
 induction b with
 | zero => rw [show a = 0 by omega]
 | succ b ih =>
   by_cases e : a = b + 1
   · rw [e]
   · rw [takenB_succ, hn b (by omega) (by omega), if_neg (by decide), List.append_nil, ih (by omega) fun i h1 h2 => hn i h1 (by omega)]
theorem takenB_hit (m : Nat → Int) (k p q : Nat) (hp : p ≤ q) (hq : q < 64) (hb : bit (m k) q = true) (hn : ∀ r, p ≤ r → r < q → bit (m k) r = false) : takenB m (k * 64 + (q + 1)) = takenB m (k * 64 + p) ++ [k * 64 + q] := by
 rw [← Nat.add_assoc, takenB_succ, tb_at _ _ _ hq, hb, if_pos rfl, takenB_skip m (k * 64 + p) (k * 64 + q) (by omega) fun i h1 h2 => by
  have := hn (i - k * 64) (by omega) (by omega)
  rw [show i = k * 64 + (i - k * 64) by omega, tb_at _ _ _ (by omega)]
  exact this]
theorem takenB_end (m : Nat → Int) (k p : Nat) (hp : p ≤ 64) (hn : ∀ r, p ≤ r → r < 64 → bit (m k) r = false) : takenB m ((k + 1) * 64) = takenB m (k * 64 + p) := by
 rw [show (k + 1) * 64 = k * 64 + 64 by omega]
 refine takenB_skip m _ _ (by omega) fun i h1 h2 => ?_
 rw [show i = k * 64 + (i - k * 64) by omega, tb_at _ _ _ (by omega)]
 exact hn _ (by omega) (by omega)
theorem takenB_zero (m : Nat → Int) (k : Nat) (hk : k ≤ 8) (h : ∀ l, k ≤ l → l < 8 → m l = 0) : taken m = takenB m (k * 64) := by
 refine takenB_skip m _ _ (by omega) fun i h1 h2 => ?_
 unfold tb
 rw [h (i / 64) (by omega) (by omega)]
 exact bit_zero _
theorem takenB_pre (m : Nat → Int) (a b : Nat) (h : a ≤ b) : takenB m a <+: takenB m b := by
 induction b with
 | zero => rw [show a = 0 by omega]; exact List.prefix_refl _
 | succ b ih =>
   by_cases e : a = b + 1
   · rw [e]; exact List.prefix_refl _
   · rw [takenB_succ]; exact (ih (by omega)).trans (List.prefix_append _ _)
theorem first_cases (n : Int) (p : Nat) (hp : p ≤ 64) : (first n p = -1 ∧ ∀ r, p ≤ r → r < 64 → bit n r = false) ∨ ∃ q, first n p = (q : Nat) ∧ p ≤ q ∧ q < 64 ∧ bit n q = true ∧ ∀ r, p ≤ r → r < q → bit n r = false := by
 have key : ∀ k, p ≤ k → (∀ r, p ≤ r → r < k → bit n r = false) ∨ ∃ q, p ≤ q ∧ q < k ∧ bit n q = true ∧ ∀ r, p ≤ r → r < q → bit n r = false := fun k hk => by
  induction k with
  | zero => exact .inl fun r h1 h2 => by omega
  | succ k ih =>
    by_cases e : p = k + 1
    · exact .inl fun r h1 h2 => by omega
    · rcases ih (by omega) with h | ⟨q, h1, h2, h3⟩
      · cases hb : bit n k
        · exact .inl fun r h1 h2 => by
           by_cases e : r = k
           · rw [e]; exact hb
           · exact h r h1 (by omega)
        · exact .inr ⟨k, by omega, by omega, hb, h⟩
      · exact .inr ⟨q, h1, by omega, h3⟩
 rcases key 64 hp with h | ⟨q, h1, h2, h3, h4⟩
 · exact .inl ⟨first_none n p 64 (fun r h1 h2 => h r (by omega) h2) (Nat.le_refl _), h⟩
 · exact .inr ⟨q, first_some n p q (fun r h1 h2 => h4 r (by omega) h2) (by omega) h2 h3, h1, h2, h3, h4⟩
def cutL (m : Nat → Int) (k l : Nat) : Int := if l < k then 0 else m l
theorem cutL_ok {m : Nat → Int} (h : okM m) (k : Nat) : okM (cutL m k) := fun l => by
 unfold cutL
 split
 · exact ⟨Int.le_refl _, by decide⟩
 · exact h l
theorem cutL_zero (m : Nat → Int) : cutL m 0 = m := by funext l; unfold cutL; rw [if_neg (Nat.not_lt_zero l)]
theorem cutL_at (m : Nat → Int) (k : Nat) : cutL m k k = m k := by unfold cutL; rw [if_neg (Nat.lt_irrefl k)]
theorem cutL_next (m : Nat → Int) (k i : Nat) : upd (cutL m k) k 0 i = cutL m (k + 1) i := by
 unfold upd cutL
 by_cases e : i = k
 · rw [if_pos e, if_pos (by omega)]
 · rw [if_neg e]
   by_cases h : i < k
   · rw [if_pos h, if_pos (by omega)]
   · rw [if_neg h, if_neg (by omega)]
def emptyM (a b : Nat → Int) : Bool := eqs ((List.range 8).map a) ((List.range 8).map b)
theorem emptyM_true {a b : Nat → Int} (h : emptyM a b = true) : ∀ i, i < 8 → a i = b i := fun i hi => by
 unfold emptyM eqs at h
 have h2 := eq_of_beq h
 have h3 := congrArg (fun l : List Int => l[i]?) h2
 simpa [hi] using h3
theorem emptyM_false {a b : Nat → Int} (h : emptyM a b = false) : ¬ ∀ i, i < 8 → a i = b i := fun h2 => by
 have : (List.range 8).map a = (List.range 8).map b := List.map_congr_left fun i hi => h2 i (by simpa using hi)
 unfold emptyM eqs at h
 rw [this] at h
 simp at h
theorem eqOM2 (a b : Nat → Int) (w : World) : (Op.equalIn 10000 24 (.agg (ol a).toArray) (.agg (ol b).toArray)).run Try.prog w = .ok (emptyM a b) w := by
 have hi : (Try.prog.info? 22).isSome = true := by kernel_rfl
 obtain ⟨i, hi⟩ := Option.isSome_iff_exists.1 hi
 have hc : Try.prog.cellsOf 22 = 1 := by kernel_rfl
 have h := run_equalIn_array w 9999 (i := i) (ol a).toArray (ol b).toArray Try.underlying24 hi
 rw [hc] at h
 have e : ∀ f : Nat → Int, (((List.range 8).map f).map (Value.int .u64)).toArray = (ol f).toArray := fun f => by unfold ol il; rw [List.map_map]; rfl
 have g := eqItems_ints 9998 22 .u64 Try.underlying22 ((List.range 8).map a) ((List.range 8).map b) w (List.range 8) (by intro i hi; simpa using hi)
 rw [e, e] at g
 have r := all_range ((List.range 8).map a) ((List.range 8).map b) (by simp)
 rw [List.length_map, List.length_range] at r
 exact (h.trans g).trans (congrArg (fun b => Result.ok b w) r)
theorem neOM {ops : Array Oper} {rest : List Oper} {o : Oper} {a : Act} {w : World} {Q : Exit → Act → World → Prop} (hgd : o.guard = none) (x y : Operand) (u : TypeId) (ho : o.op = .binOp .neq 24 x y u) {m n : Nat → Int} (hx : a.eval x = .agg (ol m).toArray) (hy : a.eval y = .agg (ol n).toArray)
 (h : wpList Try.prog ops Q rest (a.put o.dst (.bool (!emptyM m n))) w) : wpList Try.prog ops Q (o :: rest) a w :=
 wpList_plain hgd fun _ hK => by
  have hg : (eqGuard .neq 24 x y (.agg (ol m).toArray) (.agg (ol n).toArray)).run Try.prog w = .ok () w := by
   have e : Try.prog.eqGuardType Try.prog.depth 24 = false := by kernel_rfl
   simp [eqGuard, Sem.run_bind, run_program, e]
  have hb : (binOp .neq 24 (.agg (ol m).toArray) (.agg (ol n).toArray)).run Try.prog w = .ok (.bool (!emptyM m n)) w := by
   have e := eqOM2 m n w
   simp only [binOp, Op.equal, Sem.run_bind, Op.maxDepth]
   rw [e]
   rfl
  unfold Oper.wp execOp
  simp only [ho, hx, hy, Sem.run_bind, hg, hb, Result.andThen_ok]
  exact hK _ _ h
theorem buildOMs {ops : Array Oper} {rest : List Oper} {o : Oper} {a : Act} {w : World} {Q : Exit → Act → World → Prop} (hgd : o.guard = none) (ho : o.op = .build 24 #[])
 (h : wpList Try.prog ops Q rest (a.put o.dst (.agg (ol mz).toArray)) w) : wpList Try.prog ops Q (o :: rest) a w :=
 wpList_plain hgd fun _ hK => by
  have hrun := buildOM w
  unfold Oper.wp execOp
  simp only [ho, List.map_toArray, List.map_nil, Sem.run_bind, hrun, Result.andThen_ok]
  exact hK _ _ h
theorem offA {S : Nat → Prop} (w : World) (o : Obj) : Off S w (w.alloc o) := ⟨rfl, rfl, rfl, by simp, fun k hk _ => Below.heap_alloc w o k hk⟩
def prA (i : Nat) : Array Value := #[.int .i64 ((i / 64 : Nat) : Int), .int .i64 ((i % 64 : Nat) : Int)]
def lf (x : Int) : Nat := if x < 0 then 0 else 65 - x.toNat
theorem lf_none (q : Nat) (hq : q < 64) : lf (-1) < lf (q : Int) := by
 unfold lf
 rw [if_pos (by decide), if_neg (by omega)]
 omega
theorem lf_some (q q2 : Nat) (h : q < q2) (h2 : q2 < 64) : lf (q2 : Int) < lf (q : Int) := by
 unfold lf
 rw [if_neg (by omega), if_neg (by omega)]
 omega
def KeepB (B : Nat) (A A' : World) : Prop := A.heap.size ≤ A'.heap.size ∧ A'.heap[B]? = A.heap[B]?
structure TkAt (B : Nat) (m : Nat → Int) (J : List Nat → World → Prop) (w : World) (k p : Nat) : Prop where
 R : OAt tOM w B (cutL m k)
 j : J (takenB m (k * 64 + p)) w
section
variable {B : Nat} {m : Nat → Int} {J : List Nat → World → Prop} {w w' : World} {k p : Nat}
theorem TkAt.below (h : TkAt B m J w k p) (hJ : ∀ s A A', J s A → Off (· = B) A A' → J s A') (hb : Below w.heap.size w w') : TkAt B m J w' k p :=
 ⟨h.R.below hb, hJ _ _ _ h.j ⟨hb.os, hb.tape, hb.output, hb.size, fun i hi _ => hb.block i hi⟩⟩
theorem TkAt.next (h : TkAt B m J w k p) (hJ : ∀ s A A', J s A → Off (· = B) A A' → J s A') (hp : p ≤ 64) (hn : ∀ r, p ≤ r → r < 64 → bit (m k) r = false) : TkAt B m J (w.setCell ⟨B, k, none⟩ (.int .u64 0)) (k + 1) 0 :=
 ⟨(h.R.set k 0).congr fun i _ => cutL_next m k i, hJ _ _ _ (by rw [Nat.add_zero, takenB_end m k p hp hn]; exact h.j) (off_set _ _ _ _)⟩
end
set_option maxHeartbeats 6400000 in
theorem oTaken1 (l bm : Nat) (m : Nat → Int) (hm : okM m) (J Jx : List Nat → World → Prop) (w : World) (hJ : ∀ s A A', J s A → Off (· = w.heap.size) A A' → J s A')
 (hY : ∀ pre i W1, J pre W1 → w.heap.size < W1.heap.size → pre ++ [i] <+: taken m → YieldAt Fence.wide 1 Try.prog l (prA i) W1 fun e W' => (e = .returned (.bool true) ∧ J (pre ++ [i]) W' ∧ KeepB w.heap.size W1 W') ∨ (e = .returned (.bool false) ∧ Jx (pre ++ [i]) W'))
 (hbm : OAt tOM w bm m) (h0 : J [] w) :
 Calls Try.prog 30 #[.func (.yield l) #[] #[], .pointer (some ⟨bm, 0, none⟩)] w fun e w' => (∃ v, e = .returned v) ∧ (J (taken m) w' ∨ ∃ pre, pre <+: taken m ∧ Jx pre w') := by
 have HM := Lib.hid hm
 have HJ := Lib.hid hJ
 have HY := Lib.hid hY
 have HA := Lib.hid hbm
 have H0 := Lib.hid h0
 clear hm hJ hY hbm h0
 go_enter Try.func30, Try.ntmps30
 go_upto_region 1 with (first
  | (refine ldOM rfl (.tmp 1) rfl rfl HA.out ?_)
  | (rw [zeros8]; refine stOM rfl (.tmp 3) (.tmp 6) rfl rfl rfl (show OAt tOM (w.alloc (oO tOM fun _ => 0)) w.heap.size (fun _ => 0) from blk_new w _) ?_; intro w3 h3 ho; have HT := Lib.hid (show TkAt w.heap.size m J w3 0 0 from ⟨by rw [cutL_zero]; exact h3, HJ.out _ _ _ H0.out ((offA w _).trans ho)⟩); clear h3 ho))
 clear H0 HA
 simp only [Act.put]
 go_wp2_with fail
 go_loopw [4] (fun x wr => ∃ (k : Nat), k ≤ 8 ∧ x = .int .i64 k ∧ Hid (TkAt w.heap.size m J wr k 0)) (fun x wr => 8 - (intOf x).toNat)
 case atStart => exact ⟨0, by omega, rfl, HT⟩
 case round =>
  clear HT
  obtain ⟨k, hk, rfl, HT⟩ := hrel
  rename_i wr
  cases he : emptyM (cutL m k) mz
  · have hk8 : k < 8 := by
     refine Nat.lt_of_not_le fun h => emptyM_false he fun i hi => ?_
     unfold cutL
     rw [if_pos (by omega)]
     rfl
    have HN0 := Lib.hid (fun w' => show Calls Try.prog _ _ _ _ from oNext (cutL m k) (k : Int) 0 w' (cutL_ok HM.out k) ⟨by decide, by decide⟩)
    rw [mnext_at _ _ _ hk8, cutL_at] at HN0
    have HE := Lib.hid he
    clear he
    go_wp2_with (first
     | (refine ldOM rfl (.tmp 3) rfl rfl HT.out.R ?_)
     | (refine buildOMs rfl rfl ?_)
     | (refine neOM rfl (.tmp 7) (.tmp 8) _ rfl rfl rfl ?_; rw [HE.out])
     | (go_at_call 14; refine (HN0.out _).mono ?_; rintro e w4 ⟨rfl, hb⟩; have HT := Lib.hid (HT.out.below HJ.out hb); clear hb))
    go_loopw [5] (fun x wr => ∃ (p : Nat), p ≤ 64 ∧ Hid (x = .int .i64 (first (m k) p)) ∧ Hid (TkAt w.heap.size m J wr k p)) (fun x wr => lf (intOf x))
    case atStart => exact ⟨0, by omega, Lib.hid rfl, HT⟩
    case round =>
     clear HT HN0
     obtain ⟨p, hp, HX, HT⟩ := hrel
     obtain rfl := HX.out
     clear HX
     rcases first_cases (m k) p hp with ⟨hf, hn⟩ | ⟨q, hf, hpq, hq, hb, hn⟩
     · rw [hf]
       have HN := Lib.hid (HT.out.next HJ.out hp hn)
       have c := HT.out.R.c k hk8
       have f := HT.out.R.free k
       have hl := HT.out.R.lt
       have hk0 : 0 ≤ (k : Int) := by omega
       have hk1 : (k : Int) < 8 := by omega
       clear hf hn hp HE HT
       go_wp2_with fail
       go_roundw
       case rel => exact ⟨k + 1, by omega, by go_num, HN⟩
       case measure => simp [intOf]; omega
     · rw [hf]
       have hne : ((q : Int) != -1) = true := by simp
       have HF := Lib.hid (show takenB m (k * 64 + (q + 1)) = takenB m (k * 64 + p) ++ [k * 64 + q] from takenB_hit m k p q hpq hq hb hn)
       obtain ⟨fn, tmps, asg, body, hy, hR⟩ := HY.out _ (k * 64 + q) _ HT.out.j HT.out.R.lt (HF.out ▸ takenB_pre m _ _ (by omega))
       rw [show prA (k * 64 + q) = #[.int .i64 (k : Int), .int .i64 (q : Int)] by unfold prA; rw [show (k * 64 + q) / 64 = k by omega, show (k * 64 + q) % 64 = q by omega]] at hy
       clear hf hn hb HE
       go_upto_region 7 with (fail)
       refine (wpIn_wide (n := 2)).1 ?_
       gi_wp2
       refine hR.mono ?_
       rintro e W3 (⟨rfl, hJ3, hk3⟩ | ⟨rfl, hJx3⟩)
       · have HT3 := Lib.hid (show TkAt w.heap.size m J W3 k (q + 1) from ⟨hk3.2.trans HT.out.R, HF.out ▸ hJ3⟩)
         have HN0 := Lib.hid (fun w' => show Calls Try.prog _ _ _ _ from oNext (cutL m k) (k : Int) ((q : Int) + 1) w' (cutL_ok HM.out k) ⟨by omega, by omega⟩)
         rw [mnext_at _ _ _ hk8, cutL_at] at HN0
         clear hJ3 hk3 HT hy hR hne HF
         gi_wp2
         go_wp2_with (first
          | (refine ldOM rfl (.tmp 3) rfl rfl HT3.out.R ?_)
          | (go_at_call 14; refine (HN0.out _).mono ?_; rintro e w5 ⟨rfl, hb⟩; have HT3 := Lib.hid (HT3.out.below HJ.out hb); clear hb))
         go_roundw
         case rel => exact ⟨q + 1, by omega, Lib.hid (by rw [show ((q + 1 : Nat) : Int) = (q : Int) + 1 by omega]), HT3⟩
         case measure =>
          rcases first_cases (m k) (q + 1) (by omega) with ⟨hf, _⟩ | ⟨q2, hf, h2, h3, _⟩
          · rw [show ((q + 1 : Nat) : Int) = (q : Int) + 1 by omega] at hf
            rw [hf]
            show lf (-1) < lf (q : Int)
            exact lf_none q hq
          · rw [show ((q + 1 : Nat) : Int) = (q : Int) + 1 by omega] at hf
            rw [hf]
            show lf (q2 : Int) < lf (q : Int)
            exact lf_some q q2 (by omega) h3
       · have HX := Lib.hid (show takenB m (k * 64 + p) ++ [k * 64 + q] <+: taken m ∧ Jx (takenB m (k * 64 + p) ++ [k * 64 + q]) W3 from ⟨HF.out ▸ takenB_pre m _ _ (by omega), hJx3⟩)
         clear hJx3 HT hy hR hne HF
         gi_wp2
         go_wp2_with fail
         refine bodyPost_ret (results_none rfl _ _ _) rfl ?_
         exact ⟨⟨_, rfl⟩, .inr ⟨_, HX.out⟩⟩
  · have HD := Lib.hid (show J (taken m) wr by
     rw [takenB_zero m k hk fun l h1 h2 => by
      have := emptyM_true he l h2
      unfold cutL at this
      rw [if_neg (by omega)] at this
      exact this]
     exact HT.out.j)
    have HE := Lib.hid he
    clear he
    go_wp2_with (first
     | (refine ldOM rfl (.tmp 3) rfl rfl HT.out.R ?_)
     | (refine buildOMs rfl rfl ?_)
     | (refine neOM rfl (.tmp 7) (.tmp 8) _ rfl rfl rfl ?_; rw [HE.out]))
    go_end0
    exact ⟨⟨_, rfl⟩, .inl HD.out⟩
end Go.Proofs.Ytgfoeiikocpmdaa.B
