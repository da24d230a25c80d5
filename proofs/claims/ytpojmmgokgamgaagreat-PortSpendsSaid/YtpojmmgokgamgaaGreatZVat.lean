/- A board's ticks: up to a fault, a reset, the rest. -/
import Derived.Test.YtpojmmgokgamgaaGreatZVas
set_option linter.unusedVariables false
set_option linter.unusedSimpArgs false
set_option maxRecDepth 100000
namespace Go.Proofs.YtpojmmgokgamgaaGreat.B
open Go.ChangeShapes Go.WideShapes Go.RowKit Go.Sort
section
variable {n c : Nat} {x : Bx} {N : Int}
theorem later_due (h : x.still) (hf : (x.later N).wd.fa = 0) : (x.later N).due = 0 := by
 unfold Bx.due; rw [if_neg (by show ¬ x.rs.qs = true; rw [h.2]; decide)]; exact hf
theorem later_due2 (h : x.still) (hf : (x.later N).wd.fa ≠ 0) : (x.later N).due = 2 := by
 unfold Bx.due; rw [if_neg (by show ¬ x.rs.qs = true; rw [h.2]; decide)]; exact tick_fault h.1 hf
theorem tick_fa2 (h : x.still) (hf : (x.later N).wd.fa ≠ 0) : x.tick N = ((x.later N).rst 2).later (N - x.wd.ran N) := by
 rw [Bx.tick_yes hf, show (x.later N).wd.fa = 2 from tick_fault h.1 hf, Bx.rst_later]
theorem tick_end2 (ok : x.ok n c) (h : x.still) (hf : (x.later N).wd.fa ≠ 0) (n0 : 0 <= N) (n1 : N < 18446744073709551616) (he : x.wd.ran N = N) : x.tick N = (x.later N).rst 2 := by
 have hl := Bx.later_ok ok h.1 n0 n1
 rw [tick_fa2 h hf, he, Int.sub_self, Bx.rst_later, addS_zero hl.t0 hl.t1, Rk.tick_zero (Rk.zero_ok hl.rk)]
 rfl
theorem rst_due (x : Bx) (k : Int) : ((x.rst 2).later k).due = 0 := by
 unfold Bx.due; rw [if_neg (by show ¬ (x.rs.ltc 2).qs = true; rw [ltc_qs isC_two]; decide)]; rfl
end
set_option maxHeartbeats 3200000 in
theorem bdTickZero (B : Bp) (x : Bx) (N : Int) (w : World) (H : BdAt w B x) (n0 : 0 <= N) (n1 : N < 18446744073709551616) (hN : N = 0) :
 Calls Tryz.prog 33 #[.pointer (some ⟨B.b, 0, none⟩), .int .u64 N] w fun e w' => e = .returned (.tuple #[]) /\ Left B (x.tick N) w w' := by
 have HST := Hd (Bx.tick_ok H.ok H.still n0 n1)
 have hX := H.raw.cells
 have c0 := blk_cell hX 0
 have c1 := blk_cell hX 1
 have c2 := blk_cell hX 2
 have c3 := blk_cell hX 3
 have c4 := blk_cell hX 4
 have c5 := blk_cell hX 5
 simp only [List.getElem?_toArray, List.getElem?_cons_zero, List.getElem?_cons_succ] at c0 c1 c2 c3 c4 c5
 subst hN
 have HLK := Hd (Bx.tick_zero H.ok H.still)
 have HOK := Hd H.ok
 have HFA := Hd H.still.1
 have HR := Hd H.raw
 have HO := Hd (Off.refl B.own w)
 clear hX H
 go_enter Tryz.func33, Tryz.ntmps33
 go_wp2_with fail
 go_step3
 go_wp2_with fail
 go_step3
 go_wp2_with fail
 refine wp_loop_rounds 1 ?_
 rw [rounds_succ]
 go_wp2_with fail
 refine (zWire B _ _ _ HR.out.dv HOK.out).mono ?_
 rintro e w1 ⟨rfl, dA, hoA⟩
 have R1 := HR.out.turn dA hoA rfl
 have O1 := HO.out.trans (offOwn (B := B) hoA)
 clear dA hoA
 have HL := Hd (show Left B (x.tick 0) w w1 from ⟨B.ev, (R1.done HOK.out (HLK.out.symm.still HST.out.2)).like HLK.out, O1, fun k hk => .inl hk⟩)
 clear HR HO R1 O1 c0 c1 c2 c3 c4 c5
 go_wp2_with fail
 rw [Exit.noGoto_normal]
 go_end0
 exact ⟨rfl, HL.out⟩
set_option maxHeartbeats 3200000 in
theorem bdTickCalm (B : Bp) (x : Bx) (N : Int) (w : World) (H : BdAt w B x) (n0 : 0 <= N) (n1 : N < 18446744073709551616) (hN : 0 < N) (hf : (x.later N).wd.fa = 0) :
 Calls Tryz.prog 33 #[.pointer (some ⟨B.b, 0, none⟩), .int .u64 N] w fun e w' => e = .returned (.tuple #[]) /\ Left B (x.tick N) w w' := by
 have HST := Hd (Bx.tick_ok H.ok H.still n0 n1)
 have hX := H.raw.cells
 have c0 := blk_cell hX 0
 have c1 := blk_cell hX 1
 have c2 := blk_cell hX 2
 have c3 := blk_cell hX 3
 have c4 := blk_cell hX 4
 have c5 := blk_cell hX 5
 simp only [List.getElem?_toArray, List.getElem?_cons_zero, List.getElem?_cons_succ] at c0 c1 c2 c3 c4 c5
 have HRN := Hd (show x.wd.ran N = N from ran_all H.still.1 hf)
 have HDU := Hd (later_due H.still hf)
 have HOK1 := Hd (Bx.later_ok H.ok H.still.1 n0 n1)
 have HTE := Hd (Bx.tick_no hf)
 clear hf
 have HOK := Hd H.ok
 have HFA := Hd H.still.1
 have HR := Hd H.raw
 have HO := Hd (Off.refl B.own w)
 clear hX H
 go_enter Tryz.func33, Tryz.ntmps33
 go_wp2_with fail
 go_step3
 go_wp2_with fail
 go_step3
 go_wp2_with fail
 refine wp_loop_rounds 2 ?_
 rw [rounds_succ]
 go_wp2_with fail
 refine (zLater B _ _ (N) _ HR.out.dv HOK.out HFA.out n0 n1).mono ?_
 rw [HRN.out]
 rintro e w1 ⟨rfl, dA, hoA⟩
 have R1 := HR.out.turn dA hoA rfl
 have O1 := HO.out.trans (offOwn (B := B) hoA)
 clear dA hoA HR HO
 have hX1 := R1.cells
 clear c0 c1 c2 c3 c4 c5
 have c0 := blk_cell hX1 0
 have c1 := blk_cell hX1 1
 have c2 := blk_cell hX1 2
 have c3 := blk_cell hX1 3
 have c4 := blk_cell hX1 4
 have c5 := blk_cell hX1 5
 simp only [List.getElem?_toArray, List.getElem?_cons_zero, List.getElem?_cons_succ] at c0 c1 c2 c3 c4 c5
 have HR := Hd R1
 have HO := Hd O1
 clear R1 hX1 O1
 go_wp2_with fail
 refine (zDue B _ _ _ HR.out.dv HOK1.out).mono ?_
 rw [HDU.out]
 rintro e w2 ⟨rfl, hbA⟩
 have R1 := HR.out.below hbA
 have O1 := HO.out.trans (Off.ofBelow (S := B.own) hbA)
 clear hbA HR HO
 have hX1 := R1.cells
 clear c0 c1 c2 c3 c4 c5
 have c0 := blk_cell hX1 0
 have c1 := blk_cell hX1 1
 have c2 := blk_cell hX1 2
 have c3 := blk_cell hX1 3
 have c4 := blk_cell hX1 4
 have c5 := blk_cell hX1 5
 simp only [List.getElem?_toArray, List.getElem?_cons_zero, List.getElem?_cons_succ] at c0 c1 c2 c3 c4 c5
 have HR := Hd R1
 have HO := Hd O1
 clear R1 hX1 O1
 go_wp2_with fail
 rw [rounds_succ]
 go_wp2_with fail
 refine (zWire B _ _ _ HR.out.dv HOK1.out).mono ?_
 rintro e w3 ⟨rfl, dA, hoA⟩
 have R1 := HR.out.turn dA hoA rfl
 have O1 := HO.out.trans (offOwn (B := B) hoA)
 clear dA hoA
 have HL := Hd (show Left B (x.tick N) w w3 from left_of (y := x.tick N) (HTE.out ▸ R1) HST.out.1 HST.out.2 O1)
 clear HR HO R1 O1 c0 c1 c2 c3 c4 c5
 go_wp2_with fail
 rw [Exit.noGoto_normal]
 go_end0
 exact ⟨rfl, HL.out⟩
set_option maxHeartbeats 3200000 in
theorem bdTickLast (B : Bp) (x : Bx) (N : Int) (w : World) (H : BdAt w B x) (n0 : 0 <= N) (n1 : N < 18446744073709551616) (hN : 0 < N) (hf : (x.later N).wd.fa ≠ 0) (he : x.wd.ran N = N) (hl : x.es.length < 4294967296) :
 Calls Tryz.prog 33 #[.pointer (some ⟨B.b, 0, none⟩), .int .u64 N] w fun e w' => e = .returned (.tuple #[]) /\ Left B (x.tick N) w w' := by
 have HST := Hd (Bx.tick_ok H.ok H.still n0 n1)
 have hX := H.raw.cells
 have c0 := blk_cell hX 0
 have c1 := blk_cell hX 1
 have c2 := blk_cell hX 2
 have c3 := blk_cell hX 3
 have c4 := blk_cell hX 4
 have c5 := blk_cell hX 5
 simp only [List.getElem?_toArray, List.getElem?_cons_zero, List.getElem?_cons_succ] at c0 c1 c2 c3 c4 c5
 have HDU := Hd (later_due2 H.still hf)
 have HOK1 := Hd (Bx.later_ok H.ok H.still.1 n0 n1)
 have HLE := Hd (show (x.later N).es.length < 4294967296 from hl)
 have HOK2 := Hd (Bx.rst_ok (Bx.later_ok H.ok H.still.1 n0 n1) 2)
 have HRN := Hd he
 have HTE := Hd (tick_end2 H.ok H.still hf n0 n1 he)
 clear hf he hl
 have HOK := Hd H.ok
 have HFA := Hd H.still.1
 have HR := Hd H.raw
 have HO := Hd (Off.refl B.own w)
 clear hX H
 go_enter Tryz.func33, Tryz.ntmps33
 go_wp2_with fail
 go_step3
 go_wp2_with fail
 go_step3
 go_wp2_with fail
 refine wp_loop_rounds 2 ?_
 rw [rounds_succ]
 go_wp2_with fail
 refine (zLater B _ _ (N) _ HR.out.dv HOK.out HFA.out n0 n1).mono ?_
 rw [HRN.out]
 rintro e w1 ⟨rfl, dA, hoA⟩
 have R1 := HR.out.turn dA hoA rfl
 have O1 := HO.out.trans (offOwn (B := B) hoA)
 clear dA hoA HR HO
 have hX1 := R1.cells
 clear c0 c1 c2 c3 c4 c5
 have c0 := blk_cell hX1 0
 have c1 := blk_cell hX1 1
 have c2 := blk_cell hX1 2
 have c3 := blk_cell hX1 3
 have c4 := blk_cell hX1 4
 have c5 := blk_cell hX1 5
 simp only [List.getElem?_toArray, List.getElem?_cons_zero, List.getElem?_cons_succ] at c0 c1 c2 c3 c4 c5
 have HR := Hd R1
 have HO := Hd O1
 clear R1 hX1 O1
 go_wp2_with fail
 refine (zDue B _ _ _ HR.out.dv HOK1.out).mono ?_
 rw [HDU.out]
 rintro e w2 ⟨rfl, hbA⟩
 have R1 := HR.out.below hbA
 have O1 := HO.out.trans (Off.ofBelow (S := B.own) hbA)
 clear hbA HR HO
 have hX1 := R1.cells
 clear c0 c1 c2 c3 c4 c5
 have c0 := blk_cell hX1 0
 have c1 := blk_cell hX1 1
 have c2 := blk_cell hX1 2
 have c3 := blk_cell hX1 3
 have c4 := blk_cell hX1 4
 have c5 := blk_cell hX1 5
 simp only [List.getElem?_toArray, List.getElem?_cons_zero, List.getElem?_cons_succ] at c0 c1 c2 c3 c4 c5
 have HR := Hd R1
 have HO := Hd O1
 clear R1 hX1 O1
 go_wp2_with fail
 refine (bdReset B _ _ 2 _ HR.out HOK1.out HLE.out).mono ?_
 rintro e w3 ⟨rfl, ev', R1, hoA, heA⟩
 have O1 := HO.out.trans hoA
 have HEV := Hd (show ∀ k, ev'.ownBlock = some k -> B.ev.ownBlock = some k \/ w.heap.size <= k from fun k hk => (heA k hk).imp id fun h => Nat.le_trans HO.out.size h)
 clear hoA heA HR HO
 have hX1 := R1.cells
 clear c0 c1 c2 c3 c4 c5
 have c0 := blk_cell hX1 0
 have c1 := blk_cell hX1 1
 have c2 := blk_cell hX1 2
 have c3 := blk_cell hX1 3
 have c4 := blk_cell hX1 4
 have c5 := blk_cell hX1 5
 simp only [List.getElem?_toArray, List.getElem?_cons_zero, List.getElem?_cons_succ] at c0 c1 c2 c3 c4 c5
 have HR := Hd R1
 have HO := Hd O1
 clear R1 hX1 O1
 go_wp2_with fail
 rw [rounds_succ]
 go_wp2_with fail
 refine (zWire { B with ev := ev' } _ _ _ HR.out.dv HOK2.out).mono ?_
 rintro e w4 ⟨rfl, dA, hoA⟩
 have R1 := HR.out.turn dA hoA rfl
 have O1 := HO.out.trans (offOwn (B := B) hoA)
 clear dA hoA
 have HL := Hd (show Left B (x.tick N) w w4 from left_ev (y := x.tick N) (HTE.out ▸ R1) HST.out.1 HST.out.2 O1 HEV.out)
 clear HR HO R1 O1 c0 c1 c2 c3 c4 c5
 go_wp2_with fail
 rw [Exit.noGoto_normal]
 go_end0
 exact ⟨rfl, HL.out⟩
set_option maxHeartbeats 3200000 in
theorem bdTickFault (B : Bp) (x : Bx) (N : Int) (w : World) (H : BdAt w B x) (n0 : 0 <= N) (n1 : N < 18446744073709551616) (hN : 0 < N) (hf : (x.later N).wd.fa ≠ 0) (k : Int) (hr : x.wd.ran N = k) (k0 : 0 <= k) (k1 : k < N) (hl : x.es.length < 4294967296) :
 Calls Tryz.prog 33 #[.pointer (some ⟨B.b, 0, none⟩), .int .u64 N] w fun e w' => e = .returned (.tuple #[]) /\ Left B (x.tick N) w w' := by
 have HST := Hd (Bx.tick_ok H.ok H.still n0 n1)
 have hX := H.raw.cells
 have c0 := blk_cell hX 0
 have c1 := blk_cell hX 1
 have c2 := blk_cell hX 2
 have c3 := blk_cell hX 3
 have c4 := blk_cell hX 4
 have c5 := blk_cell hX 5
 simp only [List.getElem?_toArray, List.getElem?_cons_zero, List.getElem?_cons_succ] at c0 c1 c2 c3 c4 c5
 have HDU := Hd (later_due2 H.still hf)
 have HOK1 := Hd (Bx.later_ok H.ok H.still.1 n0 n1)
 have HLE := Hd (show (x.later N).es.length < 4294967296 from hl)
 have HOK2 := Hd (Bx.rst_ok (Bx.later_ok H.ok H.still.1 n0 n1) 2)
 have HRN := Hd hr
 have HTE := Hd (show x.tick N = ((x.later N).rst 2).later (N - k) by rw [tick_fa2 H.still hf, hr])
 have HOK3 := Hd (show (((x.later N).rst 2).later (N - k)).ok B.n B.c from Bx.later_ok (Bx.rst_ok (Bx.later_ok H.ok H.still.1 n0 n1) 2) rfl (by omega) (by omega))
 have HRZ := Hd (wz_ran (N - k))
 obtain ⟨m, hm⟩ : ∃ m, N - k = m := ⟨_, rfl⟩
 have m0 : 0 < m := by omega
 have m1 : m < 18446744073709551616 := by omega
 have m2 : 0 <= m := by omega
 rw [hm] at HTE HOK3 HRZ
 clear hf hr hl
 have HOK := Hd H.ok
 have HFA := Hd H.still.1
 have HR := Hd H.raw
 have HO := Hd (Off.refl B.own w)
 clear hX H
 go_enter Tryz.func33, Tryz.ntmps33
 go_wp2_with fail
 go_step3
 go_wp2_with fail
 go_step3
 go_wp2_with fail
 refine wp_loop_rounds 3 ?_
 rw [rounds_succ]
 go_wp2_with fail
 refine (zLater B _ _ (N) _ HR.out.dv HOK.out HFA.out n0 n1).mono ?_
 rw [HRN.out]
 rintro e w1 ⟨rfl, dA, hoA⟩
 have R1 := HR.out.turn dA hoA rfl
 have O1 := HO.out.trans (offOwn (B := B) hoA)
 clear dA hoA HR HO
 have hX1 := R1.cells
 clear c0 c1 c2 c3 c4 c5
 have c0 := blk_cell hX1 0
 have c1 := blk_cell hX1 1
 have c2 := blk_cell hX1 2
 have c3 := blk_cell hX1 3
 have c4 := blk_cell hX1 4
 have c5 := blk_cell hX1 5
 simp only [List.getElem?_toArray, List.getElem?_cons_zero, List.getElem?_cons_succ] at c0 c1 c2 c3 c4 c5
 have HR := Hd R1
 have HO := Hd O1
 clear R1 hX1 O1
 go_wp2_with fail
 refine (zDue B _ _ _ HR.out.dv HOK1.out).mono ?_
 rw [HDU.out]
 rintro e w2 ⟨rfl, hbA⟩
 have R1 := HR.out.below hbA
 have O1 := HO.out.trans (Off.ofBelow (S := B.own) hbA)
 clear hbA HR HO
 have hX1 := R1.cells
 clear c0 c1 c2 c3 c4 c5
 have c0 := blk_cell hX1 0
 have c1 := blk_cell hX1 1
 have c2 := blk_cell hX1 2
 have c3 := blk_cell hX1 3
 have c4 := blk_cell hX1 4
 have c5 := blk_cell hX1 5
 simp only [List.getElem?_toArray, List.getElem?_cons_zero, List.getElem?_cons_succ] at c0 c1 c2 c3 c4 c5
 have HR := Hd R1
 have HO := Hd O1
 clear R1 hX1 O1
 go_wp2_with fail
 refine (bdReset B _ _ 2 _ HR.out HOK1.out HLE.out).mono ?_
 rintro e w3 ⟨rfl, ev', R1, hoA, heA⟩
 have O1 := HO.out.trans hoA
 have HEV := Hd (show ∀ k, ev'.ownBlock = some k -> B.ev.ownBlock = some k \/ w.heap.size <= k from fun k hk => (heA k hk).imp id fun h => Nat.le_trans HO.out.size h)
 clear hoA heA HR HO
 have hX1 := R1.cells
 clear c0 c1 c2 c3 c4 c5
 have c0 := blk_cell hX1 0
 have c1 := blk_cell hX1 1
 have c2 := blk_cell hX1 2
 have c3 := blk_cell hX1 3
 have c4 := blk_cell hX1 4
 have c5 := blk_cell hX1 5
 simp only [List.getElem?_toArray, List.getElem?_cons_zero, List.getElem?_cons_succ] at c0 c1 c2 c3 c4 c5
 have HR := Hd R1
 have HO := Hd O1
 clear R1 hX1 O1
 go_wp2_with fail
 rw [rounds_succ]
 go_wp2_with fail
 refine (zLater { B with ev := ev' } _ _ (m) _ HR.out.dv HOK2.out rfl m2 m1).mono ?_
 rw [show ((x.later N).rst 2).wd.ran m = m from HRZ.out]
 rintro e w4 ⟨rfl, dA, hoA⟩
 have R1 := HR.out.turn dA hoA rfl
 have O1 := HO.out.trans (offOwn (B := B) hoA)
 clear dA hoA HR HO
 have hX1 := R1.cells
 clear c0 c1 c2 c3 c4 c5
 have c0 := blk_cell hX1 0
 have c1 := blk_cell hX1 1
 have c2 := blk_cell hX1 2
 have c3 := blk_cell hX1 3
 have c4 := blk_cell hX1 4
 have c5 := blk_cell hX1 5
 simp only [List.getElem?_toArray, List.getElem?_cons_zero, List.getElem?_cons_succ] at c0 c1 c2 c3 c4 c5
 have HR := Hd R1
 have HO := Hd O1
 clear R1 hX1 O1
 go_wp2_with fail
 refine (zDue { B with ev := ev' } _ _ _ HR.out.dv HOK3.out).mono ?_
 rw [rst_due]
 rintro e w5 ⟨rfl, hbA⟩
 have R1 := HR.out.below hbA
 have O1 := HO.out.trans (Off.ofBelow (S := B.own) hbA)
 clear hbA HR HO
 have hX1 := R1.cells
 clear c0 c1 c2 c3 c4 c5
 have c0 := blk_cell hX1 0
 have c1 := blk_cell hX1 1
 have c2 := blk_cell hX1 2
 have c3 := blk_cell hX1 3
 have c4 := blk_cell hX1 4
 have c5 := blk_cell hX1 5
 simp only [List.getElem?_toArray, List.getElem?_cons_zero, List.getElem?_cons_succ] at c0 c1 c2 c3 c4 c5
 have HR := Hd R1
 have HO := Hd O1
 clear R1 hX1 O1
 go_wp2_with fail
 rw [rounds_succ]
 go_wp2_with fail
 refine (zWire { B with ev := ev' } _ _ _ HR.out.dv HOK3.out).mono ?_
 rintro e w6 ⟨rfl, dA, hoA⟩
 have R1 := HR.out.turn dA hoA rfl
 have O1 := HO.out.trans (offOwn (B := B) hoA)
 clear dA hoA
 have HL := Hd (show Left B (x.tick N) w w6 from left_ev (y := x.tick N) (HTE.out ▸ R1) HST.out.1 HST.out.2 O1 HEV.out)
 clear HR HO R1 O1 c0 c1 c2 c3 c4 c5
 go_wp2_with fail
 rw [Exit.noGoto_normal]
 go_end0
 exact ⟨rfl, HL.out⟩
theorem bdTick (B : Bp) (x : Bx) (N : Int) (w : World) (H : BdAt w B x) (n0 : 0 <= N) (n1 : N < 18446744073709551616) (hl : x.es.length < 4294967296) :
 Calls Tryz.prog 33 #[.pointer (some ⟨B.b, 0, none⟩), .int .u64 N] w fun e w' => e = .returned (.tuple #[]) /\ Left B (x.tick N) w w' := by
 by_cases hN : N = 0
 . exact bdTickZero B x N w H n0 n1 hN
 . by_cases hf : (x.later N).wd.fa = 0
   . exact bdTickCalm B x N w H n0 n1 (by omega) hf
   . have hb := ran_bounds H.ok.wd H.still.1 n0
     by_cases he : x.wd.ran N = N
     . exact bdTickLast B x N w H n0 n1 (by omega) hf he hl
     . exact bdTickFault B x N w H n0 n1 (by omega) hf _ rfl hb.1 (by omega) hl
end Go.Proofs.YtpojmmgokgamgaaGreat.B
