/- A part of the proof of a law of layer 12: av. -/
import Derived.Test.YtpojmmgokgamgaaGreatZYau
set_option linter.unusedVariables false
set_option linter.unusedSimpArgs false
set_option maxHeartbeats 12800000
set_option maxRecDepth 100000
namespace Go.Proofs.YtpojmmgokgamgaaGreat.B
open Go.Proofs.Tryz
open List renaming getElem?_toArray -> y0q, getElem?_cons_zero -> y1q, getElem?_cons_succ -> y2q
open Go.ChangeShapes Go.WideShapes Go.RowKit Go.Sort
section
variable {n c : Nat} {x : Bx} {N : Int}
theorem aDw (h : x.still) (hf : (x.later N).wd.fa = 0) : (x.later N).due = 0 := by
 unfold Bx.due; rw [if_neg (by show ¬ x.rs.qs = true; rw [h.2]; decide)]; exact hf
theorem sT (h : x.still) (hf : (x.later N).wd.fa ≠ 0) : (x.later N).due = 2 := by
 unfold Bx.due; rw [if_neg (by show ¬ x.rs.qs = true; rw [h.2]; decide)]; exact jX h.1 hf
theorem aAE (h : x.still) (hf : (x.later N).wd.fa ≠ 0) : x.tick N = ((x.later N).rst 2).later (N - x.wd.ran N) := by
 rw [Bx.tick_yes hf, show (x.later N).wd.fa = 2 from jX h.1 hf, Bx.rst_later]
theorem aDz (ok : x.ok n c) (h : x.still) (hf : (x.later N).wd.fa ≠ 0) (n0 : 0 <= N) (n1 : N < 18446744073709551616) (he : x.wd.ran N = N) : x.tick N = (x.later N).rst 2 := by
 have hl := Bx.later_ok ok h.1 n0 n1
 rw [aAE h hf, he, Int.sub_self, Bx.rst_later, uY hl.t0 hl.t1, Rk.tick_zero (Rk.zero_ok hl.rk)]
 rfl
theorem aID (x : Bx) (k : Int) : ((x.rst 2).later k).due = 0 := by
 unfold Bx.due; rw [if_neg (by show ¬ (x.rs.ltc 2).qs = true; rw [aCg zI]; decide)]; rfl
end
theorem nJ {P : Prop} (h : P := by
 clear HR HO R1 O1 c0 c1 c2 c3 c4 c5
 go_wp2_with fail
 rw [Exit.noGoto_normal]
 go_end0
 exact ⟨rfl, HL.out⟩
 ) : P := h
theorem aCc (B : Bp) (x : Bx) (N : Int) (w : World) (H : bC w B x) (n0 : 0 <= N) (n1 : N < 18446744073709551616) (hN : N = 0) :
 Calls prog 33 #[.pointer (some ⟨B.b, 0, none⟩), .int .u64 N] w fun e w' => e = .returned (.tuple #[]) /\ jI B (x.tick N) w w' := by
 have HST := Hd (Bx.tick_ok H.ok H.still n0 n1)
 have hX := H.raw.cells
 have c0 := aA hX 0
 have c1 := aA hX 1
 have c2 := aA hX 2
 have c3 := aA hX 3
 have c4 := aA hX 4
 have c5 := aA hX 5
 simp only [y0q, y1q, y2q] at c0 c1 c2 c3 c4 c5
 subst hN
 have HLK := Hd (Bx.tick_zero H.ok H.still)
 have HOK := Hd H.ok
 have HFA := Hd H.still.1
 have HR := Hd H.raw
 have HO := Hd (aF.refl B.own w)
 clear hX H
 go_enter func33, ntmps33
 go_wp2_with fail
 go_step3
 go_wp2_with fail
 go_step3
 go_wp2_with fail
 refine wp_loop_rounds 1 ?_
 rw [rounds_succ]
 go_wp2_with fail
 refine (vV B _ _ _ HR.out.dv HOK.out).mono ?_
 rintro e w1 ⟨rfl, dA, hoA⟩
 have R1 := HR.out.turn dA hoA rfl
 have O1 := HO.out.trans (gO (B := B) hoA)
 clear dA hoA
 have HL := Hd (show jI B (x.tick 0) w w1 from ⟨B.ev, (R1.done HOK.out (HLK.out.symm.still HST.out.2)).like HLK.out, O1, fun k hk => .inl hk⟩)
 exact nJ
theorem aBZ (B : Bp) (x : Bx) (N : Int) (w : World) (H : bC w B x) (n0 : 0 <= N) (n1 : N < 18446744073709551616) (hN : 0 < N) (hf : (x.later N).wd.fa = 0) :
 Calls prog 33 #[.pointer (some ⟨B.b, 0, none⟩), .int .u64 N] w fun e w' => e = .returned (.tuple #[]) /\ jI B (x.tick N) w w' := by
 have HST := Hd (Bx.tick_ok H.ok H.still n0 n1)
 have hX := H.raw.cells
 have c0 := aA hX 0
 have c1 := aA hX 1
 have c2 := aA hX 2
 have c3 := aA hX 3
 have c4 := aA hX 4
 have c5 := aA hX 5
 simp only [y0q, y1q, y2q] at c0 c1 c2 c3 c4 c5
 have HRN := Hd (show x.wd.ran N = N from aI9 H.still.1 hf)
 have HDU := Hd (aDw H.still hf)
 have HOK1 := Hd (Bx.later_ok H.ok H.still.1 n0 n1)
 have HTE := Hd (Bx.tick_no hf)
 clear hf
 have HOK := Hd H.ok
 have HFA := Hd H.still.1
 have HR := Hd H.raw
 have HO := Hd (aF.refl B.own w)
 clear hX H
 go_enter func33, ntmps33
 go_wp2_with fail
 go_step3
 go_wp2_with fail
 go_step3
 go_wp2_with fail
 refine wp_loop_rounds 2 ?_
 rw [rounds_succ]
 go_wp2_with fail
 refine (yU B _ _ (N) _ HR.out.dv HOK.out HFA.out n0 n1).mono ?_
 rw [HRN.out]
 rintro e w1 ⟨rfl, dA, hoA⟩
 have R1 := HR.out.turn dA hoA rfl
 have O1 := HO.out.trans (gO (B := B) hoA)
 clear dA hoA HR HO
 have hX1 := R1.cells
 clear c0 c1 c2 c3 c4 c5
 have c0 := aA hX1 0
 have c1 := aA hX1 1
 have c2 := aA hX1 2
 have c3 := aA hX1 3
 have c4 := aA hX1 4
 have c5 := aA hX1 5
 simp only [y0q, y1q, y2q] at c0 c1 c2 c3 c4 c5
 have HR := Hd R1
 have HO := Hd O1
 clear R1 hX1 O1
 go_wp2_with fail
 refine (aDg B _ _ _ HR.out.dv HOK1.out).mono ?_
 rw [HDU.out]
 rintro e w2 ⟨rfl, hbA⟩
 have R1 := HR.out.below hbA
 have O1 := HO.out.trans (aF.ofBelow (S := B.own) hbA)
 clear hbA HR HO
 have hX1 := R1.cells
 clear c0 c1 c2 c3 c4 c5
 have c0 := aA hX1 0
 have c1 := aA hX1 1
 have c2 := aA hX1 2
 have c3 := aA hX1 3
 have c4 := aA hX1 4
 have c5 := aA hX1 5
 simp only [y0q, y1q, y2q] at c0 c1 c2 c3 c4 c5
 have HR := Hd R1
 have HO := Hd O1
 clear R1 hX1 O1
 go_wp2_with fail
 rw [rounds_succ]
 go_wp2_with fail
 refine (vV B _ _ _ HR.out.dv HOK1.out).mono ?_
 rintro e w3 ⟨rfl, dA, hoA⟩
 have R1 := HR.out.turn dA hoA rfl
 have O1 := HO.out.trans (gO (B := B) hoA)
 clear dA hoA
 have HL := Hd (show jI B (x.tick N) w w3 from zJ (y := x.tick N) (HTE.out ▸ R1) HST.out.1 HST.out.2 O1)
 exact nJ
theorem aCT (B : Bp) (x : Bx) (N : Int) (w : World) (H : bC w B x) (n0 : 0 <= N) (n1 : N < 18446744073709551616) (hN : 0 < N) (hf : (x.later N).wd.fa ≠ 0) (he : x.wd.ran N = N) (hl : x.es.length < 4294967296) :
 Calls prog 33 #[.pointer (some ⟨B.b, 0, none⟩), .int .u64 N] w fun e w' => e = .returned (.tuple #[]) /\ jI B (x.tick N) w w' := by
 have HST := Hd (Bx.tick_ok H.ok H.still n0 n1)
 have hX := H.raw.cells
 have c0 := aA hX 0
 have c1 := aA hX 1
 have c2 := aA hX 2
 have c3 := aA hX 3
 have c4 := aA hX 4
 have c5 := aA hX 5
 simp only [y0q, y1q, y2q] at c0 c1 c2 c3 c4 c5
 have HDU := Hd (sT H.still hf)
 have HOK1 := Hd (Bx.later_ok H.ok H.still.1 n0 n1)
 have HLE := Hd (show (x.later N).es.length < 4294967296 from hl)
 have HOK2 := Hd (Bx.rst_ok (Bx.later_ok H.ok H.still.1 n0 n1) 2)
 have HRN := Hd he
 have HTE := Hd (aDz H.ok H.still hf n0 n1 he)
 clear hf he hl
 have HOK := Hd H.ok
 have HFA := Hd H.still.1
 have HR := Hd H.raw
 have HO := Hd (aF.refl B.own w)
 clear hX H
 go_enter func33, ntmps33
 go_wp2_with fail
 go_step3
 go_wp2_with fail
 go_step3
 go_wp2_with fail
 refine wp_loop_rounds 2 ?_
 rw [rounds_succ]
 go_wp2_with fail
 refine (yU B _ _ (N) _ HR.out.dv HOK.out HFA.out n0 n1).mono ?_
 rw [HRN.out]
 rintro e w1 ⟨rfl, dA, hoA⟩
 have R1 := HR.out.turn dA hoA rfl
 have O1 := HO.out.trans (gO (B := B) hoA)
 clear dA hoA HR HO
 have hX1 := R1.cells
 clear c0 c1 c2 c3 c4 c5
 have c0 := aA hX1 0
 have c1 := aA hX1 1
 have c2 := aA hX1 2
 have c3 := aA hX1 3
 have c4 := aA hX1 4
 have c5 := aA hX1 5
 simp only [y0q, y1q, y2q] at c0 c1 c2 c3 c4 c5
 have HR := Hd R1
 have HO := Hd O1
 clear R1 hX1 O1
 go_wp2_with fail
 refine (aDg B _ _ _ HR.out.dv HOK1.out).mono ?_
 rw [HDU.out]
 rintro e w2 ⟨rfl, hbA⟩
 have R1 := HR.out.below hbA
 have O1 := HO.out.trans (aF.ofBelow (S := B.own) hbA)
 clear hbA HR HO
 have hX1 := R1.cells
 clear c0 c1 c2 c3 c4 c5
 have c0 := aA hX1 0
 have c1 := aA hX1 1
 have c2 := aA hX1 2
 have c3 := aA hX1 3
 have c4 := aA hX1 4
 have c5 := aA hX1 5
 simp only [y0q, y1q, y2q] at c0 c1 c2 c3 c4 c5
 have HR := Hd R1
 have HO := Hd O1
 clear R1 hX1 O1
 go_wp2_with fail
 refine (xX B _ _ 2 _ HR.out HOK1.out HLE.out).mono ?_
 rintro e w3 ⟨rfl, ev', R1, hoA, heA⟩
 have O1 := HO.out.trans hoA
 have HEV := Hd (show ∀ k, ev'.ownBlock = some k -> B.ev.ownBlock = some k \/ w.heap.size <= k from fun k hk => (heA k hk).imp id fun h => Nat.le_trans HO.out.size h)
 clear hoA heA HR HO
 have hX1 := R1.cells
 clear c0 c1 c2 c3 c4 c5
 have c0 := aA hX1 0
 have c1 := aA hX1 1
 have c2 := aA hX1 2
 have c3 := aA hX1 3
 have c4 := aA hX1 4
 have c5 := aA hX1 5
 simp only [y0q, y1q, y2q] at c0 c1 c2 c3 c4 c5
 have HR := Hd R1
 have HO := Hd O1
 clear R1 hX1 O1
 go_wp2_with fail
 rw [rounds_succ]
 go_wp2_with fail
 refine (vV { B with ev := ev' } _ _ _ HR.out.dv HOK2.out).mono ?_
 rintro e w4 ⟨rfl, dA, hoA⟩
 have R1 := HR.out.turn dA hoA rfl
 have O1 := HO.out.trans (gO (B := B) hoA)
 clear dA hoA
 have HL := Hd (show jI B (x.tick N) w w4 from yX (y := x.tick N) (HTE.out ▸ R1) HST.out.1 HST.out.2 O1 HEV.out)
 exact nJ
theorem aAM (B : Bp) (x : Bx) (N : Int) (w : World) (H : bC w B x) (n0 : 0 <= N) (n1 : N < 18446744073709551616) (hN : 0 < N) (hf : (x.later N).wd.fa ≠ 0) (k : Int) (hr : x.wd.ran N = k) (k0 : 0 <= k) (k1 : k < N) (hl : x.es.length < 4294967296) :
 Calls prog 33 #[.pointer (some ⟨B.b, 0, none⟩), .int .u64 N] w fun e w' => e = .returned (.tuple #[]) /\ jI B (x.tick N) w w' := by
 have HST := Hd (Bx.tick_ok H.ok H.still n0 n1)
 have hX := H.raw.cells
 have c0 := aA hX 0
 have c1 := aA hX 1
 have c2 := aA hX 2
 have c3 := aA hX 3
 have c4 := aA hX 4
 have c5 := aA hX 5
 simp only [y0q, y1q, y2q] at c0 c1 c2 c3 c4 c5
 have HDU := Hd (sT H.still hf)
 have HOK1 := Hd (Bx.later_ok H.ok H.still.1 n0 n1)
 have HLE := Hd (show (x.later N).es.length < 4294967296 from hl)
 have HOK2 := Hd (Bx.rst_ok (Bx.later_ok H.ok H.still.1 n0 n1) 2)
 have HRN := Hd hr
 have HTE := Hd (show x.tick N = ((x.later N).rst 2).later (N - k) by rw [aAE H.still hf, hr])
 have HOK3 := Hd (show (((x.later N).rst 2).later (N - k)).ok B.n B.c from Bx.later_ok (Bx.rst_ok (Bx.later_ok H.ok H.still.1 n0 n1) 2) rfl (by omega) (by omega))
 have HRZ := Hd (aEi (N - k))
 obtain ⟨m, hm⟩ : ∃ m, N - k = m := ⟨_, rfl⟩
 have m0 : 0 < m := by omega
 have m1 : m < 18446744073709551616 := by omega
 have m2 : 0 <= m := by omega
 rw [hm] at HTE HOK3 HRZ
 clear hf hr hl
 have HOK := Hd H.ok
 have HFA := Hd H.still.1
 have HR := Hd H.raw
 have HO := Hd (aF.refl B.own w)
 clear hX H
 go_enter func33, ntmps33
 go_wp2_with fail
 go_step3
 go_wp2_with fail
 go_step3
 go_wp2_with fail
 refine wp_loop_rounds 3 ?_
 rw [rounds_succ]
 go_wp2_with fail
 refine (yU B _ _ (N) _ HR.out.dv HOK.out HFA.out n0 n1).mono ?_
 rw [HRN.out]
 rintro e w1 ⟨rfl, dA, hoA⟩
 have R1 := HR.out.turn dA hoA rfl
 have O1 := HO.out.trans (gO (B := B) hoA)
 clear dA hoA HR HO
 have hX1 := R1.cells
 clear c0 c1 c2 c3 c4 c5
 have c0 := aA hX1 0
 have c1 := aA hX1 1
 have c2 := aA hX1 2
 have c3 := aA hX1 3
 have c4 := aA hX1 4
 have c5 := aA hX1 5
 simp only [y0q, y1q, y2q] at c0 c1 c2 c3 c4 c5
 have HR := Hd R1
 have HO := Hd O1
 clear R1 hX1 O1
 go_wp2_with fail
 refine (aDg B _ _ _ HR.out.dv HOK1.out).mono ?_
 rw [HDU.out]
 rintro e w2 ⟨rfl, hbA⟩
 have R1 := HR.out.below hbA
 have O1 := HO.out.trans (aF.ofBelow (S := B.own) hbA)
 clear hbA HR HO
 have hX1 := R1.cells
 clear c0 c1 c2 c3 c4 c5
 have c0 := aA hX1 0
 have c1 := aA hX1 1
 have c2 := aA hX1 2
 have c3 := aA hX1 3
 have c4 := aA hX1 4
 have c5 := aA hX1 5
 simp only [y0q, y1q, y2q] at c0 c1 c2 c3 c4 c5
 have HR := Hd R1
 have HO := Hd O1
 clear R1 hX1 O1
 go_wp2_with fail
 refine (xX B _ _ 2 _ HR.out HOK1.out HLE.out).mono ?_
 rintro e w3 ⟨rfl, ev', R1, hoA, heA⟩
 have O1 := HO.out.trans hoA
 have HEV := Hd (show ∀ k, ev'.ownBlock = some k -> B.ev.ownBlock = some k \/ w.heap.size <= k from fun k hk => (heA k hk).imp id fun h => Nat.le_trans HO.out.size h)
 clear hoA heA HR HO
 have hX1 := R1.cells
 clear c0 c1 c2 c3 c4 c5
 have c0 := aA hX1 0
 have c1 := aA hX1 1
 have c2 := aA hX1 2
 have c3 := aA hX1 3
 have c4 := aA hX1 4
 have c5 := aA hX1 5
 simp only [y0q, y1q, y2q] at c0 c1 c2 c3 c4 c5
 have HR := Hd R1
 have HO := Hd O1
 clear R1 hX1 O1
 go_wp2_with fail
 rw [rounds_succ]
 go_wp2_with fail
 refine (yU { B with ev := ev' } _ _ (m) _ HR.out.dv HOK2.out rfl m2 m1).mono ?_
 rw [show ((x.later N).rst 2).wd.ran m = m from HRZ.out]
 rintro e w4 ⟨rfl, dA, hoA⟩
 have R1 := HR.out.turn dA hoA rfl
 have O1 := HO.out.trans (gO (B := B) hoA)
 clear dA hoA HR HO
 have hX1 := R1.cells
 clear c0 c1 c2 c3 c4 c5
 have c0 := aA hX1 0
 have c1 := aA hX1 1
 have c2 := aA hX1 2
 have c3 := aA hX1 3
 have c4 := aA hX1 4
 have c5 := aA hX1 5
 simp only [y0q, y1q, y2q] at c0 c1 c2 c3 c4 c5
 have HR := Hd R1
 have HO := Hd O1
 clear R1 hX1 O1
 go_wp2_with fail
 refine (aDg { B with ev := ev' } _ _ _ HR.out.dv HOK3.out).mono ?_
 rw [aID]
 rintro e w5 ⟨rfl, hbA⟩
 have R1 := HR.out.below hbA
 have O1 := HO.out.trans (aF.ofBelow (S := B.own) hbA)
 clear hbA HR HO
 have hX1 := R1.cells
 clear c0 c1 c2 c3 c4 c5
 have c0 := aA hX1 0
 have c1 := aA hX1 1
 have c2 := aA hX1 2
 have c3 := aA hX1 3
 have c4 := aA hX1 4
 have c5 := aA hX1 5
 simp only [y0q, y1q, y2q] at c0 c1 c2 c3 c4 c5
 have HR := Hd R1
 have HO := Hd O1
 clear R1 hX1 O1
 go_wp2_with fail
 rw [rounds_succ]
 go_wp2_with fail
 refine (vV { B with ev := ev' } _ _ _ HR.out.dv HOK3.out).mono ?_
 rintro e w6 ⟨rfl, dA, hoA⟩
 have R1 := HR.out.turn dA hoA rfl
 have O1 := HO.out.trans (gO (B := B) hoA)
 clear dA hoA
 have HL := Hd (show jI B (x.tick N) w w6 from yX (y := x.tick N) (HTE.out ▸ R1) HST.out.1 HST.out.2 O1 HEV.out)
 exact nJ
theorem aFy (B : Bp) (x : Bx) (N : Int) (w : World) (H : bC w B x) (n0 : 0 <= N) (n1 : N < 18446744073709551616) (hl : x.es.length < 4294967296) :
 Calls prog 33 #[.pointer (some ⟨B.b, 0, none⟩), .int .u64 N] w fun e w' => e = .returned (.tuple #[]) /\ jI B (x.tick N) w w' := by
 by_cases hN : N = 0
 . exact aCc B x N w H n0 n1 hN
 . by_cases hf : (x.later N).wd.fa = 0
   . exact aBZ B x N w H n0 n1 (by omega) hf
   . have hb := fX H.ok.wd H.still.1 n0
     by_cases he : x.wd.ran N = N
     . exact aCT B x N w H n0 n1 (by omega) hf he hl
     . exact aAM B x N w H n0 n1 (by omega) hf _ rfl hb.1 (by omega) hl
end Go.Proofs.YtpojmmgokgamgaaGreat.B
