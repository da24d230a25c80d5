/- Layer 16's laws: PoolOnce (written by gen_vonce.py). -/
import Derived.Test.YtggmllobcemhhaaZAaf
namespace Go.Proofs.Ytggmllobcemhhaa.B
set_option linter.unusedVariables false
set_option linter.unusedSimpArgs false
set_option maxRecDepth 100000
open Go.ChangeShapes Go.WideShapes Go.RowKit Go.Sort
set_option maxHeartbeats 25600000 in
theorem poOnce {R : PoolR} (C : PoolC R) (a : Int) (y : Option Addr) (len cap : Nat) (w : World) (ha : i64v a) (hc0 : len ≤ cap) (hy : I64s w y len cap) : Calls Try.prog 4 #[.int .i64 a, .slice y len cap] w fun e w' => e = .returned (.bool true) ∧ Below w.heap.size w w' := by
 have HC := Lib.hid C
 have HY := Lib.hid hy
 clear C hy
 obtain ⟨a0, a1⟩ := ha
 obtain ⟨n, hN, n0, n40⟩ := num_mod a 40 (by decide) (by decide)
 replace hN : wrap64 (1 + wrap64 ((IntKind.u64.wrap a).tmod 40)) = (n : Int) := hN
 have n1 : n ≤ 4096 := by omega
 go_enter Try.func4, Try.ntmps4
 go_wp2_with fail
 simp only [hN]
 clear hN a0 a1
 refine (HC.out.new n w n0 n1).mono ?_
 rintro e w1 ⟨p, S0, rfl, h1, h2, h3⟩
 have HA := Lib.hid (show ∃ S, OS R w w1 p S n (fun _ => pz) (.slice none 0 0) [] (.slice none 0 0) [] from ⟨S0, ⟨h1, h2, h3⟩, uv_nil _ _, fun b hb => by (cases hb), uv_nil _ _, fun b hb => by (cases hb), fun b hb => by (cases hb)⟩)
 have HP := Lib.hid (show OnP n (fun _ => pz) [] [] (1 + 0) ∧ ([] : List Int).length ≤ 0 ∧ ([] : List Int).length ≤ 0 from ⟨⟨fun i hi => pz_ok, fun x hx => by (cases hx), fun x hx => by (cases hx), by rw [hds_none (fun _ => pz) n fun i hi => rfl]; rfl⟩, Nat.le_refl _, Nat.le_refl _⟩)
 clear h1 h2 h3
 go_wp2_with fail
 go_loopw [7, 8, 9] (fun v7 v8 x wr => ∃ (i : Nat) (L G : List Int) (t : Nat → Po), i ≤ len ∧ i ≤ 200 ∧ x = .int .i64 i ∧ Hid (∃ S, OS R w wr p S n t v7 L v8 G) ∧ Hid (OnP n t L G (1 + i) ∧ L.length ≤ i ∧ G.length ≤ i)) (fun v7 v8 x wr => len - (intOf x).toNat)
 case atStart => exact ⟨0, [], [], _, by omega, by omega, rfl, HA, HP⟩
 case round =>
  clear HA HP
  obtain ⟨i, L, G, t, hi, hi2, rfl, HA, HP⟩ := hrel
  by_cases hlt : i < len ∧ i < 200
  · obtain ⟨hl1, hl2⟩ := hlt
    obtain ⟨S1, A1⟩ := HA.out
    obtain ⟨yt, ct, hvt, hct, hLc, hrt⟩ := A1.T.form
    obtain ⟨yg, cg, hvg, hcg, hGc, hrg⟩ := A1.U.form
    obtain ⟨lt, hlt⟩ : ∃ lt, L.length = lt := ⟨_, rfl⟩
    obtain ⟨lg, hlg⟩ : ∃ lg, G.length = lg := ⟨_, rfl⟩
    have hb1 : lt ≤ 200 := by rw [← hlt]; exact Nat.le_trans HP.out.2.1 (by omega)
    have hb2 : lg ≤ 200 := by rw [← hlg]; exact Nat.le_trans HP.out.2.2 (by omega)
    have HLT := Lib.hid hlt
    have HLG := Lib.hid hlg
    have HGL := Lib.hid (show G.length ≤ i from HP.out.2.2)
    have HLen := Lib.hid (show lt = lg + (hdsB t n).length by rw [← hlt, ← hlg]; exact HP.out.1.len)
    rw [hlt] at hvt
    rw [hlg] at hvg
    subst hvt hvg
    have e1 : decide ((i : Int) < (len : Int)) = true := decide_eq_true (by omega)
    have e2 : decide ((i : Int) < 200) = true := decide_eq_true (by omega)
    have e1n : decide (i < len) = true := decide_eq_true hl1
    have HV := Lib.hid (A1.K.vin n0 n1 HP.out.1.ok (by omega))
    have q1 : (i : Int) < 18446744073709551616 := by omega
    clear hrt hrg hlt hlg hct hcg hLc hGc
    rcases free_case t n with hall | ⟨k, hk, hkf, hkp⟩
    · have HPu := Lib.hid (HC.out.putNo wr p S1 n t 0 0 i HV.out u0 u0 ⟨by omega, q1⟩ hall)
      have hfull := hds_all t n hall
      have hb12 : lt ≤ 201 ∧ 1 ≤ lt := by have := HLen.out; rw [hfull] at this; omega
      have e3 : decide (((lt : Int) - (lg : Int)) < (n : Int)) = false := decide_eq_false (by have := HLen.out; rw [hfull] at this; omega)
      have HP2 := Lib.hid (show OnP n t L G (1 + i) ∧ L.length ≤ i + 1 ∧ G.length ≤ i + 1 from ⟨HP.out.1, Nat.le_succ_of_le HP.out.2.1, Nat.le_succ_of_le HP.out.2.2⟩)
      clear hall hfull
      go_upto_region 19 with (go_at_call 13; refine HPu.out.mono ?_; rintro e w2 ⟨rfl, hv⟩; obtain ⟨S2, A2⟩ := A1.left hv; have HB := Lib.hid (show ∃ S, OS R w w2 p S n t (.slice yt lt ct) L (.slice yg lg cg) G from ⟨S2, A2⟩); clear hv A1 A2 HPu)
      clear e3 HLen HV HP HA
      obtain ⟨SD, AD⟩ := HB.out
      obtain ⟨z, off, zs, rfl, cz1, cz2, cz3, cz4⟩ := HY.out.resolve_left (by omega)
      obtain ⟨cD, hDr⟩ := cz4 i (by omega)
      have cD := (AD.K.lo.cell (p := ⟨z, off + i, none⟩) cz3).trans cD
      have lD := Nat.lt_of_lt_of_le cz3 AD.K.lo.size
      unfold maxLen at cz2
      clear cz4 cz3
      generalize zs i = D at *
      obtain ⟨d0, d1⟩ := hDr
      have i0 : 0 ≤ (i : Int) := by omega
      have i1 : (i : Int) < (len : Int) := by omega
      by_cases hD : 0 ≤ D
      · have eD : decide (0 ≤ D) = true := decide_eq_true hD
        have e5 : decide (0 < lt) = true := decide_eq_true (by omega)
        have e6 : decide (0 < (lt : Int)) = true := decide_eq_true (by omega)
        obtain ⟨jd, hjd, hjl⟩ : ∃ jd : Nat, D.tmod (lt : Int) = jd ∧ jd < lt := by
         have h1 := Int.emod_lt_of_pos D (show (0 : Int) < lt by omega)
         have h2 := Int.emod_nonneg D (show (lt : Int) ≠ 0 by omega)
         exact ⟨(D % (lt : Int)).toNat, by rw [Int.tmod_eq_emod_of_nonneg hD]; omega, by omega⟩
        obtain ⟨gt, x, rfl, b1, b2, b3, hxg, c⟩ := AD.T.cell2 HLT.out hjl
        have hxL := List.mem_iff_getElem?.2 ⟨jd, hxg⟩
        have hxr := tld_u64 HP2.out.1.ok (by omega) n1 (HP2.out.1.Lt x hxL)
        have HVD := Lib.hid (fun (w' : World) (S1 : Nat → Prop) (A : OS R w w' p S1 n t (.slice (some ⟨gt, 0, none⟩) lt ct) L (.slice yg lg cg) G) => HC.out.drop w' p S1 n t x (A.K.vin n0 n1 HP2.out.1.ok (by omega)) hxr)
        have HXL := Lib.hid hxL
        have j0 : 0 ≤ (jd : Int) := by omega
        have j1 : (jd : Int) < (lt : Int) := by omega
        have lt0 : ((lt : Int) == 0) = false := by simp; omega
        have HDn := Lib.hid hD
        clear hxg hxL hxr hD
        unfold dropT at HVD
        cases hf : fnd n t x with
        | none =>
          rw [hf] at HVD
          simp only [Option.isSome_none] at HVD
          clear hf
          go_wp2_with fail
          refine (HVD.out _ _ AD).mono ?_
          rintro e w6 ⟨rfl, hv⟩
          obtain ⟨SE, AE⟩ := AD.left hv
          have HA := Lib.hid (show ∃ S, OS R w w6 p S n t (.slice (some ⟨gt, 0, none⟩) lt ct) L (.slice yg lg cg) G from ⟨SE, AE⟩)
          clear hv AE AD HVD c b3 HDn HXL cD lD
          have HX := Lib.hid (And.intro HLT.out HLG.out)
          go_wp2_with fail
          go_loopw [14] (fun x wr => ∃ (j : Nat), j ≤ lg ∧ x = .int .i64 j ∧ Hid (∃ S, OS R w wr p S n t (.slice (some ⟨gt, 0, none⟩) lt ct) L (.slice yg lg cg) G)) (fun x wr => lg - (intOf x).toNat)
          case atStart => exact ⟨0, by omega, rfl, HA⟩
          case round =>
           clear HA
           obtain ⟨j, hj, rfl, HA⟩ := hrel
           by_cases hjl : j < lg
           · obtain ⟨S5, A5⟩ := HA.out
             obtain ⟨gg, x, rfl, b1, b2, b3, hxg, c⟩ := A5.U.cell2 HLG.out hjl
             have hx := HP2.out.1.Gt x (List.mem_iff_getElem?.2 ⟨j, hxg⟩)
             have HVI := Lib.hid (fun (w' : World) (S1 : Nat → Prop) (A : OS R w w' p S1 n t (.slice (some ⟨gt, 0, none⟩) lt ct) L (.slice (some ⟨gg, 0, none⟩) lg cg) G) => A.K.vin n0 n1 HP2.out.1.ok (by omega))
             have HXU := Lib.hid (gon_u64 HP2.out.1.ok (by omega) n1 hx)
             have HXN := Lib.hid (gon_none n1 hx)
             have HGe := Lib.hid (HC.out.get wr p S5 n t x (HVI.out _ _ A5) HXU.out)
             rw [HXN.out] at HGe
             have HPla := Lib.hid (fun (w' : World) (S1 : Nat → Prop) (A : OS R w w' p S1 n t (.slice (some ⟨gt, 0, none⟩) lt ct) L (.slice (some ⟨gg, 0, none⟩) lg cg) G) => HC.out.place w' p S1 n t x (HVI.out _ _ A) HXU.out)
             rw [show fndI n t x = -1 by unfold fndI; rw [HXN.out]] at HPla
             have HCe := Lib.hid (fun (w' : World) (S1 : Nat → Prop) (A : OS R w w' p S1 n t (.slice (some ⟨gt, 0, none⟩) lt ct) L (.slice (some ⟨gg, 0, none⟩) lg cg) G) => show w'.cell? ⟨gg, j, none⟩ = some (.int .u64 x) ∧ gg < w'.heap.size from by
              obtain ⟨g2, x2, e, _, _, h3, h4, h5⟩ := A.U.cell2 HLG.out hjl
              cases e
              rw [h4] at hxg
              cases hxg
              exact ⟨h5, h3⟩)
             clear hx hxg HXU HXN HVI
             dsimp only at HGe
             go_wp2_with (first
              | (go_at_call 18; refine HGe.out.mono ?_; rintro e w8 ⟨rfl, hv⟩; obtain ⟨S6, A6⟩ := A5.left hv; clear hv A5 HGe c b3)
              | (rw [zeros3]; refine stEn rfl (.tmp 15) (.tmp 119) rfl rfl rfl (show EnAt tEn (w8.alloc (oEn tEn 0 0 0)) w8.heap.size 0 0 0 from blk_new w8 _) ?_; intro w9 h9 ho; have A7 := A6.below (Off.toBelow (trA (tr0 w8) (oEn tEn 0 0 0)) ho (fun j hj e => by omega) (Nat.le_refl _)); obtain ⟨c, b3⟩ := HCe.out _ _ A7; clear h9 ho A6 HCe))
             refine (HPla.out _ _ A7).mono ?_
             rintro e w10 ⟨rfl, hv⟩
             obtain ⟨S8, A8⟩ := A7.left hv
             have HA := Lib.hid (show ∃ S, OS R w w10 p S n t (.slice (some ⟨gt, 0, none⟩) lt ct) L (.slice (some ⟨gg, 0, none⟩) lg cg) G from ⟨S8, A8⟩)
             clear hv A7 A8 HPla c b3
             go_wp2_with fail
             go_roundw
             case rel => exact ⟨j + 1, by omega, by go_num, HA⟩
             case measure => simp [intOf]; omega
           · obtain rfl : j = lg := by omega
             obtain ⟨S5, A5⟩ := HA.out
             have hlen := HP2.out.1.len
             rw [HLT.out, HLG.out] at hlen
             have hln := hdsB_len t n
             obtain ⟨hh, hhh⟩ : ∃ hh, (hdsB t n).length = hh := ⟨_, rfl⟩
             have HLiv := Lib.hid (fun (w' : World) (S1 : Nat → Prop) (A : OS R w w' p S1 n t (.slice (some ⟨gt, 0, none⟩) lt ct) L (.slice yg j cg) G) => HC.out.live w' p S1 n t (A.K.vin n0 n1 HP2.out.1.ok (by omega)))
             rw [hhh] at HLiv hlen hln
             clear hhh
             have hq1 : ((lt : Int) - (j : Int)) = (hh : Int) := by omega
             have hq3 : decide ((n : Int) < (hh : Int)) = false := decide_eq_false (by omega)
             have hq4 : decide (n < hh) = false := decide_eq_false (by omega)
             clear hlen hln
             go_wp2_with fail
             refine (HLiv.out _ _ A5).mono ?_
             rintro e w8 ⟨rfl, hv⟩
             obtain ⟨S6, A6⟩ := A5.left hv
             clear hv A5
             go_wp2_with fail
             refine (HLiv.out _ _ A6).mono ?_
             rintro e w9 ⟨rfl, hv⟩
             obtain ⟨S7, A7⟩ := A6.left hv
             have HA := Lib.hid (show ∃ S, OS R w w9 p S n t (.slice (some ⟨gt, 0, none⟩) lt ct) L (.slice yg j cg) G from ⟨S7, A7⟩)
             clear hv A6 A7
             go_wp2_with fail
             go_roundw
             case rel => exact ⟨i + 1, L, G, t, by omega, by omega, by go_num, HA, Lib.hid ⟨HP2.out.1.more (by omega), HP2.out.2.1, HP2.out.2.2⟩⟩
             case measure => simp [intOf]; omega
        | some k =>
          have HP3 := Lib.hid (HP2.out.1.drop n1 HXL.out hf)
          rw [hf] at HVD
          simp only [Option.isSome_some] at HVD
          clear hf
          go_wp2_with fail
          refine (HVD.out _ _ AD).mono ?_
          rintro e w6 ⟨rfl, hv⟩
          obtain ⟨SE, AE⟩ := AD.left hv
          obtain ⟨t3, ht3⟩ : ∃ t3, pupd t k (t k).gone = t3 := ⟨_, rfl⟩
          obtain ⟨G3, hG3⟩ : ∃ G3, G ++ [x] = G3 := ⟨_, rfl⟩
          rw [ht3] at AE
          rw [ht3, hG3] at HP3
          have hbb := trA (tr0 w6) (oUv x)
          have A4 := AE.below hbb
          have HY4 := Lib.hid (blk_new w6 (oUv x))
          have HS4 := Lib.hid (show w.heap.size ≤ (w6.alloc (oUv x)).heap.size from A4.K.lo.size)
          have HL4 := Lib.hid (show G.length < 5000 by rw [HLG.out]; omega)
          have HA4 := Lib.hid A4
          have HG3 := Lib.hid hG3
          clear hv AE AD HVD c b3 HDn HXL cD lD hbb A4 ht3 hG3
          go_upto_region 23 with (first
           | (refine buildUv rfl (.tmp 103) rfl rfl ?_)
           | (refine appendUvAt rfl (.tmp 102) (.tmp 104) rfl rfl HA4.out.U rfl HY4.out HL4.out HS4.out ?_; intro v' w7 h5 ho hat; have HB3 := Lib.hid (show ∃ S, OS R w w7 p S n t3 (.slice (some ⟨gt, 0, none⟩) lt ct) L v' G3 from ⟨SE, by rw [← HG3.out]; exact HA4.out.gone h5 ho hat⟩); clear h5 ho hat))
          obtain ⟨lg3, hlg3⟩ : ∃ lg3, G3.length = lg3 := ⟨_, rfl⟩
          have hb23 : lg3 ≤ 201 ∧ lg3 = lg + 1 := by rw [← hlg3, ← HG3.out, List.length_append, HLG.out]; exact ⟨Nat.succ_le_succ hb2, rfl⟩
          have HLG3 := Lib.hid hlg3
          have HP4 := Lib.hid (show OnP n t3 L G3 (1 + i + 1) ∧ L.length ≤ i + 1 ∧ G3.length ≤ i + 1 from ⟨HP3.out, HP2.out.2.1, by rw [hlg3, hb23.2, ← HLG.out]; exact Nat.succ_le_succ HGL.out⟩)
          have hb24 := hb23.1
          clear hb23
          obtain ⟨S9, A9⟩ := HB3.out
          obtain ⟨yg3, cg3, hv3, hct3, hlc3, _⟩ := A9.U.form
          rw [hlg3] at hv3
          subst hv3
          have HA := Lib.hid (show ∃ S, OS R w w7 p S n t3 (.slice (some ⟨gt, 0, none⟩) lt ct) L (.slice yg3 lg3 cg3) G3 from ⟨S9, A9⟩)
          clear HA4 HY4 HL4 HS4 HG3 HB3 HP3 A9 hct3 hlc3 hlg3
          have HX := Lib.hid (And.intro HLT.out HLG3.out)
          go_wp2_with fail
          go_loopw [14] (fun x wr => ∃ (j : Nat), j ≤ lg3 ∧ x = .int .i64 j ∧ Hid (∃ S, OS R w wr p S n t3 (.slice (some ⟨gt, 0, none⟩) lt ct) L (.slice yg3 lg3 cg3) G3)) (fun x wr => lg3 - (intOf x).toNat)
          case atStart => exact ⟨0, by omega, rfl, HA⟩
          case round =>
           clear HA
           obtain ⟨j, hj, rfl, HA⟩ := hrel
           by_cases hjl : j < lg3
           · obtain ⟨S5, A5⟩ := HA.out
             obtain ⟨gg, x, rfl, b1, b2, b3, hxg, c⟩ := A5.U.cell2 HLG3.out hjl
             have hx := HP4.out.1.Gt x (List.mem_iff_getElem?.2 ⟨j, hxg⟩)
             have HVI := Lib.hid (fun (w' : World) (S1 : Nat → Prop) (A : OS R w w' p S1 n t3 (.slice (some ⟨gt, 0, none⟩) lt ct) L (.slice (some ⟨gg, 0, none⟩) lg3 cg3) G3) => A.K.vin n0 n1 HP4.out.1.ok (by omega))
             have HXU := Lib.hid (gon_u64 HP4.out.1.ok (by omega) n1 hx)
             have HXN := Lib.hid (gon_none n1 hx)
             have HGe := Lib.hid (HC.out.get wr p S5 n t3 x (HVI.out _ _ A5) HXU.out)
             rw [HXN.out] at HGe
             have HPla := Lib.hid (fun (w' : World) (S1 : Nat → Prop) (A : OS R w w' p S1 n t3 (.slice (some ⟨gt, 0, none⟩) lt ct) L (.slice (some ⟨gg, 0, none⟩) lg3 cg3) G3) => HC.out.place w' p S1 n t3 x (HVI.out _ _ A) HXU.out)
             rw [show fndI n t3 x = -1 by unfold fndI; rw [HXN.out]] at HPla
             have HCe := Lib.hid (fun (w' : World) (S1 : Nat → Prop) (A : OS R w w' p S1 n t3 (.slice (some ⟨gt, 0, none⟩) lt ct) L (.slice (some ⟨gg, 0, none⟩) lg3 cg3) G3) => show w'.cell? ⟨gg, j, none⟩ = some (.int .u64 x) ∧ gg < w'.heap.size from by
              obtain ⟨g2, x2, e, _, _, h3, h4, h5⟩ := A.U.cell2 HLG3.out hjl
              cases e
              rw [h4] at hxg
              cases hxg
              exact ⟨h5, h3⟩)
             clear hx hxg HXU HXN HVI
             dsimp only at HGe
             go_wp2_with (first
              | (go_at_call 18; refine HGe.out.mono ?_; rintro e w8 ⟨rfl, hv⟩; obtain ⟨S6, A6⟩ := A5.left hv; clear hv A5 HGe c b3)
              | (rw [zeros3]; refine stEn rfl (.tmp 15) (.tmp 119) rfl rfl rfl (show EnAt tEn (w8.alloc (oEn tEn 0 0 0)) w8.heap.size 0 0 0 from blk_new w8 _) ?_; intro w9 h9 ho; have A7 := A6.below (Off.toBelow (trA (tr0 w8) (oEn tEn 0 0 0)) ho (fun j hj e => by omega) (Nat.le_refl _)); obtain ⟨c, b3⟩ := HCe.out _ _ A7; clear h9 ho A6 HCe))
             refine (HPla.out _ _ A7).mono ?_
             rintro e w10 ⟨rfl, hv⟩
             obtain ⟨S8, A8⟩ := A7.left hv
             have HA := Lib.hid (show ∃ S, OS R w w10 p S n t3 (.slice (some ⟨gt, 0, none⟩) lt ct) L (.slice (some ⟨gg, 0, none⟩) lg3 cg3) G3 from ⟨S8, A8⟩)
             clear hv A7 A8 HPla c b3
             go_wp2_with fail
             go_roundw
             case rel => exact ⟨j + 1, by omega, by go_num, HA⟩
             case measure => simp [intOf]; omega
           · obtain rfl : j = lg3 := by omega
             obtain ⟨S5, A5⟩ := HA.out
             have hlen := HP4.out.1.len
             rw [HLT.out, HLG3.out] at hlen
             have hln := hdsB_len t3 n
             obtain ⟨hh, hhh⟩ : ∃ hh, (hdsB t3 n).length = hh := ⟨_, rfl⟩
             have HLiv := Lib.hid (fun (w' : World) (S1 : Nat → Prop) (A : OS R w w' p S1 n t3 (.slice (some ⟨gt, 0, none⟩) lt ct) L (.slice yg3 j cg3) G3) => HC.out.live w' p S1 n t3 (A.K.vin n0 n1 HP4.out.1.ok (by omega)))
             rw [hhh] at HLiv hlen hln
             clear hhh
             have hq1 : ((lt : Int) - (j : Int)) = (hh : Int) := by omega
             have hq3 : decide ((n : Int) < (hh : Int)) = false := decide_eq_false (by omega)
             have hq4 : decide (n < hh) = false := decide_eq_false (by omega)
             clear hlen hln
             go_wp2_with fail
             refine (HLiv.out _ _ A5).mono ?_
             rintro e w8 ⟨rfl, hv⟩
             obtain ⟨S6, A6⟩ := A5.left hv
             clear hv A5
             go_wp2_with fail
             refine (HLiv.out _ _ A6).mono ?_
             rintro e w9 ⟨rfl, hv⟩
             obtain ⟨S7, A7⟩ := A6.left hv
             have HA := Lib.hid (show ∃ S, OS R w w9 p S n t3 (.slice (some ⟨gt, 0, none⟩) lt ct) L (.slice yg3 j cg3) G3 from ⟨S7, A7⟩)
             clear hv A6 A7
             go_wp2_with fail
             go_roundw
             case rel => exact ⟨i + 1, L, G3, t3, by omega, by omega, by go_num, HA, Lib.hid ⟨HP4.out.1.more (by omega), HP4.out.2.1, HP4.out.2.2⟩⟩
             case measure => simp [intOf]; omega
      · have eD : decide (0 ≤ D) = false := decide_eq_false hD
        have HA := Lib.hid (show ∃ S, OS R w _ p S n t (.slice yt lt ct) L (.slice yg lg cg) G from ⟨SD, AD⟩)
        clear AD
        have HX := Lib.hid (And.intro HLT.out HLG.out)
        go_wp2_with fail
        go_loopw [14] (fun x wr => ∃ (j : Nat), j ≤ lg ∧ x = .int .i64 j ∧ Hid (∃ S, OS R w wr p S n t (.slice yt lt ct) L (.slice yg lg cg) G)) (fun x wr => lg - (intOf x).toNat)
        case atStart => exact ⟨0, by omega, rfl, HA⟩
        case round =>
         clear HA
         obtain ⟨j, hj, rfl, HA⟩ := hrel
         by_cases hjl : j < lg
         · obtain ⟨S5, A5⟩ := HA.out
           obtain ⟨gg, x, rfl, b1, b2, b3, hxg, c⟩ := A5.U.cell2 HLG.out hjl
           have hx := HP2.out.1.Gt x (List.mem_iff_getElem?.2 ⟨j, hxg⟩)
           have HVI := Lib.hid (fun (w' : World) (S1 : Nat → Prop) (A : OS R w w' p S1 n t (.slice yt lt ct) L (.slice (some ⟨gg, 0, none⟩) lg cg) G) => A.K.vin n0 n1 HP2.out.1.ok (by omega))
           have HXU := Lib.hid (gon_u64 HP2.out.1.ok (by omega) n1 hx)
           have HXN := Lib.hid (gon_none n1 hx)
           have HGe := Lib.hid (HC.out.get wr p S5 n t x (HVI.out _ _ A5) HXU.out)
           rw [HXN.out] at HGe
           have HPla := Lib.hid (fun (w' : World) (S1 : Nat → Prop) (A : OS R w w' p S1 n t (.slice yt lt ct) L (.slice (some ⟨gg, 0, none⟩) lg cg) G) => HC.out.place w' p S1 n t x (HVI.out _ _ A) HXU.out)
           rw [show fndI n t x = -1 by unfold fndI; rw [HXN.out]] at HPla
           have HCe := Lib.hid (fun (w' : World) (S1 : Nat → Prop) (A : OS R w w' p S1 n t (.slice yt lt ct) L (.slice (some ⟨gg, 0, none⟩) lg cg) G) => show w'.cell? ⟨gg, j, none⟩ = some (.int .u64 x) ∧ gg < w'.heap.size from by
            obtain ⟨g2, x2, e, _, _, h3, h4, h5⟩ := A.U.cell2 HLG.out hjl
            cases e
            rw [h4] at hxg
            cases hxg
            exact ⟨h5, h3⟩)
           clear hx hxg HXU HXN HVI
           dsimp only at HGe
           go_wp2_with (first
            | (go_at_call 18; refine HGe.out.mono ?_; rintro e w8 ⟨rfl, hv⟩; obtain ⟨S6, A6⟩ := A5.left hv; clear hv A5 HGe c b3)
            | (rw [zeros3]; refine stEn rfl (.tmp 15) (.tmp 119) rfl rfl rfl (show EnAt tEn (w8.alloc (oEn tEn 0 0 0)) w8.heap.size 0 0 0 from blk_new w8 _) ?_; intro w9 h9 ho; have A7 := A6.below (Off.toBelow (trA (tr0 w8) (oEn tEn 0 0 0)) ho (fun j hj e => by omega) (Nat.le_refl _)); obtain ⟨c, b3⟩ := HCe.out _ _ A7; clear h9 ho A6 HCe))
           refine (HPla.out _ _ A7).mono ?_
           rintro e w10 ⟨rfl, hv⟩
           obtain ⟨S8, A8⟩ := A7.left hv
           have HA := Lib.hid (show ∃ S, OS R w w10 p S n t (.slice yt lt ct) L (.slice (some ⟨gg, 0, none⟩) lg cg) G from ⟨S8, A8⟩)
           clear hv A7 A8 HPla c b3
           go_wp2_with fail
           go_roundw
           case rel => exact ⟨j + 1, by omega, by go_num, HA⟩
           case measure => simp [intOf]; omega
         · obtain rfl : j = lg := by omega
           obtain ⟨S5, A5⟩ := HA.out
           have hlen := HP2.out.1.len
           rw [HLT.out, HLG.out] at hlen
           have hln := hdsB_len t n
           obtain ⟨hh, hhh⟩ : ∃ hh, (hdsB t n).length = hh := ⟨_, rfl⟩
           have HLiv := Lib.hid (fun (w' : World) (S1 : Nat → Prop) (A : OS R w w' p S1 n t (.slice yt lt ct) L (.slice yg j cg) G) => HC.out.live w' p S1 n t (A.K.vin n0 n1 HP2.out.1.ok (by omega)))
           rw [hhh] at HLiv hlen hln
           clear hhh
           have hq1 : ((lt : Int) - (j : Int)) = (hh : Int) := by omega
           have hq3 : decide ((n : Int) < (hh : Int)) = false := decide_eq_false (by omega)
           have hq4 : decide (n < hh) = false := decide_eq_false (by omega)
           clear hlen hln
           go_wp2_with fail
           refine (HLiv.out _ _ A5).mono ?_
           rintro e w8 ⟨rfl, hv⟩
           obtain ⟨S6, A6⟩ := A5.left hv
           clear hv A5
           go_wp2_with fail
           refine (HLiv.out _ _ A6).mono ?_
           rintro e w9 ⟨rfl, hv⟩
           obtain ⟨S7, A7⟩ := A6.left hv
           have HA := Lib.hid (show ∃ S, OS R w w9 p S n t (.slice yt lt ct) L (.slice yg j cg) G from ⟨S7, A7⟩)
           clear hv A6 A7
           go_wp2_with fail
           go_roundw
           case rel => exact ⟨i + 1, L, G, t, by omega, by omega, by go_num, HA, Lib.hid ⟨HP2.out.1.more (by omega), HP2.out.2.1, HP2.out.2.2⟩⟩
           case measure => simp [intOf]; omega
    · have HPu := Lib.hid (HC.out.put wr p S1 n t k 0 0 i HV.out u0 u0 ⟨by omega, q1⟩ hk hkf hkp)
      have HPl := Lib.hid (hds_le t n k hk hkf)
      have HPn := Lib.hid (fun x hx => tld_new (x := x) n1 (HP.out.1.Lt x hx) hk hkf)
      have HPp := Lib.hid (HP.out.1.put n1 hk hkf (d := 0) (q := 0) (o := i) u0 u0 ⟨by omega, q1⟩)
      clear hkp
      obtain ⟨H, hH⟩ : ∃ H, hd (t k) k = H := ⟨_, rfl⟩
      rw [hH] at HPu HPp HPn
      clear hH
      have e3 : decide (((lt : Int) - (lg : Int)) < (n : Int)) = true := decide_eq_true (by have := HPl.out; have := HLen.out; omega)
      go_wp2_with (go_at_call 13; refine HPu.out.mono ?_; rintro e w2 ⟨rfl, hv⟩; obtain ⟨S2, A2⟩ := A1.left hv; clear hv A1 HPu)
      have HT := Lib.hid (show ∃ S, OS R w w2 p S n (pupd t k ((t k).put 0 0 i)) (.slice yt lt ct) L (.slice yg lg cg) G from ⟨S2, A2⟩)
      clear A2 e3
      go_loopw [12] (fun x wr => ∃ (j : Nat), j ≤ lt ∧ x = .int .i64 j ∧ Hid (∃ S, OS R w wr p S n (pupd t k ((t k).put 0 0 i)) (.slice yt lt ct) L (.slice yg lg cg) G)) (fun x wr => lt - (intOf x).toNat)
      case atStart => exact ⟨0, by omega, rfl, HT⟩
      case round =>
       clear HT HA
       obtain ⟨j, hj, rfl, HT⟩ := hrel
       by_cases hjl : j < lt
       · obtain ⟨S3, A3⟩ := HT.out
         obtain ⟨gt, x, rfl, b1, b2, b3, hxg, c⟩ := A3.T.cell2 HLT.out hjl
         have hne : (x == H) = false := by simpa using HPn.out x (List.mem_iff_getElem?.2 ⟨j, hxg⟩)
         clear A3 hxg
         go_wp2_with fail
         go_roundw
         case rel => exact ⟨j + 1, by omega, by go_num, HT⟩
         case measure => simp [intOf]; omega
       · obtain rfl : j = lt := by omega
         obtain ⟨S3, A3⟩ := HT.out
         have hbb := trA (tr0 wr) (oUv H)
         have A4 := A3.below hbb
         have HY4 := Lib.hid (blk_new wr (oUv H))
         have HS4 := Lib.hid (show w.heap.size ≤ (wr.alloc (oUv H)).heap.size from A4.K.lo.size)
         have HL4 := Lib.hid (show L.length < 5000 by rw [HLT.out]; omega)
         have HA4 := Lib.hid A4
         clear hbb A3 A4 HT
         go_upto_region 19 with (first
          | (refine buildUv rfl (.tmp 76) rfl rfl ?_)
          | (refine appendUvAt rfl (.tmp 75) (.tmp 77) rfl rfl HA4.out.T rfl HY4.out HL4.out HS4.out ?_; intro v' w5 h5 ho hat; have HB := Lib.hid (show ∃ S, OS R w w5 p S n (pupd t k ((t k).put 0 0 i)) v' (L ++ [H]) (.slice yg lg cg) G from ⟨S3, HA4.out.told h5 ho hat⟩); clear h5 ho hat))
         obtain ⟨t2, ht2⟩ : ∃ t2, pupd t k ((t k).put 0 0 i) = t2 := ⟨_, rfl⟩
         obtain ⟨L2, hL2⟩ : ∃ L2, L ++ [H] = L2 := ⟨_, rfl⟩
         have HP2 := Lib.hid (show OnP n t2 L2 G (1 + i) ∧ L2.length ≤ i + 1 ∧ G.length ≤ i + 1 from by rw [← ht2, ← hL2]; exact ⟨HPp.out, by rw [List.length_append]; exact Nat.succ_le_succ HP.out.2.1, Nat.le_succ_of_le HP.out.2.2⟩)
         obtain ⟨lt2, hlt2⟩ : ∃ lt2, L2.length = lt2 := ⟨_, rfl⟩
         have hb12 : lt2 ≤ 201 ∧ 1 ≤ lt2 := by rw [← hlt2, ← hL2, List.length_append, HLT.out]; exact ⟨Nat.succ_le_succ hb1, Nat.succ_le_succ (Nat.zero_le _)⟩
         rw [ht2, hL2] at HB
         have HLT2 := Lib.hid hlt2
         obtain ⟨S9, A9⟩ := HB.out
         obtain ⟨yt2, ct2, hv2, hct2, hlc2, _⟩ := A9.T.form
         rw [hlt2] at hv2
         subst hv2
         clear ht2 hL2 HPp HPn HPl HA4 HY4 HL4 HS4 hkf hct2 hlc2 HP HLT HLen HV hlt2 A9
         obtain ⟨SD, AD⟩ := HB.out
         obtain ⟨z, off, zs, rfl, cz1, cz2, cz3, cz4⟩ := HY.out.resolve_left (by omega)
         obtain ⟨cD, hDr⟩ := cz4 i (by omega)
         have cD := (AD.K.lo.cell (p := ⟨z, off + i, none⟩) cz3).trans cD
         have lD := Nat.lt_of_lt_of_le cz3 AD.K.lo.size
         unfold maxLen at cz2
         clear cz4 cz3
         generalize zs i = D at *
         obtain ⟨d0, d1⟩ := hDr
         have i0 : 0 ≤ (i : Int) := by omega
         have i1 : (i : Int) < (len : Int) := by omega
         by_cases hD : 0 ≤ D
         · have eD : decide (0 ≤ D) = true := decide_eq_true hD
           have e5 : decide (0 < lt2) = true := decide_eq_true (by omega)
           have e6 : decide (0 < (lt2 : Int)) = true := decide_eq_true (by omega)
           obtain ⟨jd, hjd, hjl⟩ : ∃ jd : Nat, D.tmod (lt2 : Int) = jd ∧ jd < lt2 := by
            have h1 := Int.emod_lt_of_pos D (show (0 : Int) < lt2 by omega)
            have h2 := Int.emod_nonneg D (show (lt2 : Int) ≠ 0 by omega)
            exact ⟨(D % (lt2 : Int)).toNat, by rw [Int.tmod_eq_emod_of_nonneg hD]; omega, by omega⟩
           obtain ⟨gt, x, rfl, b1, b2, b3, hxg, c⟩ := AD.T.cell2 HLT2.out hjl
           have hxL := List.mem_iff_getElem?.2 ⟨jd, hxg⟩
           have hxr := tld_u64 HP2.out.1.ok (by omega) n1 (HP2.out.1.Lt x hxL)
           have HVD := Lib.hid (fun (w' : World) (S1 : Nat → Prop) (A : OS R w w' p S1 n t2 (.slice (some ⟨gt, 0, none⟩) lt2 ct2) L2 (.slice yg lg cg) G) => HC.out.drop w' p S1 n t2 x (A.K.vin n0 n1 HP2.out.1.ok (by omega)) hxr)
           have HXL := Lib.hid hxL
           have j0 : 0 ≤ (jd : Int) := by omega
           have j1 : (jd : Int) < (lt2 : Int) := by omega
           have lt0 : ((lt2 : Int) == 0) = false := by simp; omega
           have HDn := Lib.hid hD
           clear hxg hxL hxr hD
           unfold dropT at HVD
           cases hf : fnd n t2 x with
           | none =>
             rw [hf] at HVD
             simp only [Option.isSome_none] at HVD
             clear hf
             go_wp2_with fail
             refine (HVD.out _ _ AD).mono ?_
             rintro e w6 ⟨rfl, hv⟩
             obtain ⟨SE, AE⟩ := AD.left hv
             have HA := Lib.hid (show ∃ S, OS R w w6 p S n t2 (.slice (some ⟨gt, 0, none⟩) lt2 ct2) L2 (.slice yg lg cg) G from ⟨SE, AE⟩)
             clear hv AE AD HVD c b3 HDn HXL cD lD
             have HX := Lib.hid (And.intro HLT2.out HLG.out)
             go_wp2_with fail
             go_loopw [14] (fun x wr => ∃ (j : Nat), j ≤ lg ∧ x = .int .i64 j ∧ Hid (∃ S, OS R w wr p S n t2 (.slice (some ⟨gt, 0, none⟩) lt2 ct2) L2 (.slice yg lg cg) G)) (fun x wr => lg - (intOf x).toNat)
             case atStart => exact ⟨0, by omega, rfl, HA⟩
             case round =>
              clear HA
              obtain ⟨j, hj, rfl, HA⟩ := hrel
              by_cases hjl : j < lg
              · obtain ⟨S5, A5⟩ := HA.out
                obtain ⟨gg, x, rfl, b1, b2, b3, hxg, c⟩ := A5.U.cell2 HLG.out hjl
                have hx := HP2.out.1.Gt x (List.mem_iff_getElem?.2 ⟨j, hxg⟩)
                have HVI := Lib.hid (fun (w' : World) (S1 : Nat → Prop) (A : OS R w w' p S1 n t2 (.slice (some ⟨gt, 0, none⟩) lt2 ct2) L2 (.slice (some ⟨gg, 0, none⟩) lg cg) G) => A.K.vin n0 n1 HP2.out.1.ok (by omega))
                have HXU := Lib.hid (gon_u64 HP2.out.1.ok (by omega) n1 hx)
                have HXN := Lib.hid (gon_none n1 hx)
                have HGe := Lib.hid (HC.out.get wr p S5 n t2 x (HVI.out _ _ A5) HXU.out)
                rw [HXN.out] at HGe
                have HPla := Lib.hid (fun (w' : World) (S1 : Nat → Prop) (A : OS R w w' p S1 n t2 (.slice (some ⟨gt, 0, none⟩) lt2 ct2) L2 (.slice (some ⟨gg, 0, none⟩) lg cg) G) => HC.out.place w' p S1 n t2 x (HVI.out _ _ A) HXU.out)
                rw [show fndI n t2 x = -1 by unfold fndI; rw [HXN.out]] at HPla
                have HCe := Lib.hid (fun (w' : World) (S1 : Nat → Prop) (A : OS R w w' p S1 n t2 (.slice (some ⟨gt, 0, none⟩) lt2 ct2) L2 (.slice (some ⟨gg, 0, none⟩) lg cg) G) => show w'.cell? ⟨gg, j, none⟩ = some (.int .u64 x) ∧ gg < w'.heap.size from by
                 obtain ⟨g2, x2, e, _, _, h3, h4, h5⟩ := A.U.cell2 HLG.out hjl
                 cases e
                 rw [h4] at hxg
                 cases hxg
                 exact ⟨h5, h3⟩)
                clear hx hxg HXU HXN HVI
                dsimp only at HGe
                go_wp2_with (first
                 | (go_at_call 18; refine HGe.out.mono ?_; rintro e w8 ⟨rfl, hv⟩; obtain ⟨S6, A6⟩ := A5.left hv; clear hv A5 HGe c b3)
                 | (rw [zeros3]; refine stEn rfl (.tmp 15) (.tmp 119) rfl rfl rfl (show EnAt tEn (w8.alloc (oEn tEn 0 0 0)) w8.heap.size 0 0 0 from blk_new w8 _) ?_; intro w9 h9 ho; have A7 := A6.below (Off.toBelow (trA (tr0 w8) (oEn tEn 0 0 0)) ho (fun j hj e => by omega) (Nat.le_refl _)); obtain ⟨c, b3⟩ := HCe.out _ _ A7; clear h9 ho A6 HCe))
                refine (HPla.out _ _ A7).mono ?_
                rintro e w10 ⟨rfl, hv⟩
                obtain ⟨S8, A8⟩ := A7.left hv
                have HA := Lib.hid (show ∃ S, OS R w w10 p S n t2 (.slice (some ⟨gt, 0, none⟩) lt2 ct2) L2 (.slice (some ⟨gg, 0, none⟩) lg cg) G from ⟨S8, A8⟩)
                clear hv A7 A8 HPla c b3
                go_wp2_with fail
                go_roundw
                case rel => exact ⟨j + 1, by omega, by go_num, HA⟩
                case measure => simp [intOf]; omega
              · obtain rfl : j = lg := by omega
                obtain ⟨S5, A5⟩ := HA.out
                have hlen := HP2.out.1.len
                rw [HLT2.out, HLG.out] at hlen
                have hln := hdsB_len t2 n
                obtain ⟨hh, hhh⟩ : ∃ hh, (hdsB t2 n).length = hh := ⟨_, rfl⟩
                have HLiv := Lib.hid (fun (w' : World) (S1 : Nat → Prop) (A : OS R w w' p S1 n t2 (.slice (some ⟨gt, 0, none⟩) lt2 ct2) L2 (.slice yg j cg) G) => HC.out.live w' p S1 n t2 (A.K.vin n0 n1 HP2.out.1.ok (by omega)))
                rw [hhh] at HLiv hlen hln
                clear hhh
                have hq1 : ((lt2 : Int) - (j : Int)) = (hh : Int) := by omega
                have hq3 : decide ((n : Int) < (hh : Int)) = false := decide_eq_false (by omega)
                have hq4 : decide (n < hh) = false := decide_eq_false (by omega)
                clear hlen hln
                go_wp2_with fail
                refine (HLiv.out _ _ A5).mono ?_
                rintro e w8 ⟨rfl, hv⟩
                obtain ⟨S6, A6⟩ := A5.left hv
                clear hv A5
                go_wp2_with fail
                refine (HLiv.out _ _ A6).mono ?_
                rintro e w9 ⟨rfl, hv⟩
                obtain ⟨S7, A7⟩ := A6.left hv
                have HA := Lib.hid (show ∃ S, OS R w w9 p S n t2 (.slice (some ⟨gt, 0, none⟩) lt2 ct2) L2 (.slice yg j cg) G from ⟨S7, A7⟩)
                clear hv A6 A7
                go_wp2_with fail
                go_roundw
                case rel => exact ⟨i + 1, L2, G, t2, by omega, by omega, by go_num, HA, Lib.hid ⟨HP2.out.1.more (by omega), HP2.out.2.1, HP2.out.2.2⟩⟩
                case measure => simp [intOf]; omega
           | some k =>
             have HP3 := Lib.hid (HP2.out.1.drop n1 HXL.out hf)
             rw [hf] at HVD
             simp only [Option.isSome_some] at HVD
             clear hf
             go_wp2_with fail
             refine (HVD.out _ _ AD).mono ?_
             rintro e w6 ⟨rfl, hv⟩
             obtain ⟨SE, AE⟩ := AD.left hv
             obtain ⟨t3, ht3⟩ : ∃ t3, pupd t2 k (t2 k).gone = t3 := ⟨_, rfl⟩
             obtain ⟨G3, hG3⟩ : ∃ G3, G ++ [x] = G3 := ⟨_, rfl⟩
             rw [ht3] at AE
             rw [ht3, hG3] at HP3
             have hbb := trA (tr0 w6) (oUv x)
             have A4 := AE.below hbb
             have HY4 := Lib.hid (blk_new w6 (oUv x))
             have HS4 := Lib.hid (show w.heap.size ≤ (w6.alloc (oUv x)).heap.size from A4.K.lo.size)
             have HL4 := Lib.hid (show G.length < 5000 by rw [HLG.out]; omega)
             have HA4 := Lib.hid A4
             have HG3 := Lib.hid hG3
             clear hv AE AD HVD c b3 HDn HXL cD lD hbb A4 ht3 hG3
             go_upto_region 23 with (first
              | (refine buildUv rfl (.tmp 103) rfl rfl ?_)
              | (refine appendUvAt rfl (.tmp 102) (.tmp 104) rfl rfl HA4.out.U rfl HY4.out HL4.out HS4.out ?_; intro v' w7 h5 ho hat; have HB3 := Lib.hid (show ∃ S, OS R w w7 p S n t3 (.slice (some ⟨gt, 0, none⟩) lt2 ct2) L2 v' G3 from ⟨SE, by rw [← HG3.out]; exact HA4.out.gone h5 ho hat⟩); clear h5 ho hat))
             obtain ⟨lg3, hlg3⟩ : ∃ lg3, G3.length = lg3 := ⟨_, rfl⟩
             have hb23 : lg3 ≤ 201 ∧ lg3 = lg + 1 := by rw [← hlg3, ← HG3.out, List.length_append, HLG.out]; exact ⟨Nat.succ_le_succ hb2, rfl⟩
             have HLG3 := Lib.hid hlg3
             have HP4 := Lib.hid (show OnP n t3 L2 G3 (1 + i + 1) ∧ L2.length ≤ i + 1 ∧ G3.length ≤ i + 1 from ⟨HP3.out, HP2.out.2.1, by rw [hlg3, hb23.2, ← HLG.out]; exact Nat.succ_le_succ HGL.out⟩)
             have hb24 := hb23.1
             clear hb23
             obtain ⟨S9, A9⟩ := HB3.out
             obtain ⟨yg3, cg3, hv3, hct3, hlc3, _⟩ := A9.U.form
             rw [hlg3] at hv3
             subst hv3
             have HA := Lib.hid (show ∃ S, OS R w w7 p S n t3 (.slice (some ⟨gt, 0, none⟩) lt2 ct2) L2 (.slice yg3 lg3 cg3) G3 from ⟨S9, A9⟩)
             clear HA4 HY4 HL4 HS4 HG3 HB3 HP3 A9 hct3 hlc3 hlg3
             have HX := Lib.hid (And.intro HLT2.out HLG3.out)
             go_wp2_with fail
             go_loopw [14] (fun x wr => ∃ (j : Nat), j ≤ lg3 ∧ x = .int .i64 j ∧ Hid (∃ S, OS R w wr p S n t3 (.slice (some ⟨gt, 0, none⟩) lt2 ct2) L2 (.slice yg3 lg3 cg3) G3)) (fun x wr => lg3 - (intOf x).toNat)
             case atStart => exact ⟨0, by omega, rfl, HA⟩
             case round =>
              clear HA
              obtain ⟨j, hj, rfl, HA⟩ := hrel
              by_cases hjl : j < lg3
              · obtain ⟨S5, A5⟩ := HA.out
                obtain ⟨gg, x, rfl, b1, b2, b3, hxg, c⟩ := A5.U.cell2 HLG3.out hjl
                have hx := HP4.out.1.Gt x (List.mem_iff_getElem?.2 ⟨j, hxg⟩)
                have HVI := Lib.hid (fun (w' : World) (S1 : Nat → Prop) (A : OS R w w' p S1 n t3 (.slice (some ⟨gt, 0, none⟩) lt2 ct2) L2 (.slice (some ⟨gg, 0, none⟩) lg3 cg3) G3) => A.K.vin n0 n1 HP4.out.1.ok (by omega))
                have HXU := Lib.hid (gon_u64 HP4.out.1.ok (by omega) n1 hx)
                have HXN := Lib.hid (gon_none n1 hx)
                have HGe := Lib.hid (HC.out.get wr p S5 n t3 x (HVI.out _ _ A5) HXU.out)
                rw [HXN.out] at HGe
                have HPla := Lib.hid (fun (w' : World) (S1 : Nat → Prop) (A : OS R w w' p S1 n t3 (.slice (some ⟨gt, 0, none⟩) lt2 ct2) L2 (.slice (some ⟨gg, 0, none⟩) lg3 cg3) G3) => HC.out.place w' p S1 n t3 x (HVI.out _ _ A) HXU.out)
                rw [show fndI n t3 x = -1 by unfold fndI; rw [HXN.out]] at HPla
                have HCe := Lib.hid (fun (w' : World) (S1 : Nat → Prop) (A : OS R w w' p S1 n t3 (.slice (some ⟨gt, 0, none⟩) lt2 ct2) L2 (.slice (some ⟨gg, 0, none⟩) lg3 cg3) G3) => show w'.cell? ⟨gg, j, none⟩ = some (.int .u64 x) ∧ gg < w'.heap.size from by
                 obtain ⟨g2, x2, e, _, _, h3, h4, h5⟩ := A.U.cell2 HLG3.out hjl
                 cases e
                 rw [h4] at hxg
                 cases hxg
                 exact ⟨h5, h3⟩)
                clear hx hxg HXU HXN HVI
                dsimp only at HGe
                go_wp2_with (first
                 | (go_at_call 18; refine HGe.out.mono ?_; rintro e w8 ⟨rfl, hv⟩; obtain ⟨S6, A6⟩ := A5.left hv; clear hv A5 HGe c b3)
                 | (rw [zeros3]; refine stEn rfl (.tmp 15) (.tmp 119) rfl rfl rfl (show EnAt tEn (w8.alloc (oEn tEn 0 0 0)) w8.heap.size 0 0 0 from blk_new w8 _) ?_; intro w9 h9 ho; have A7 := A6.below (Off.toBelow (trA (tr0 w8) (oEn tEn 0 0 0)) ho (fun j hj e => by omega) (Nat.le_refl _)); obtain ⟨c, b3⟩ := HCe.out _ _ A7; clear h9 ho A6 HCe))
                refine (HPla.out _ _ A7).mono ?_
                rintro e w10 ⟨rfl, hv⟩
                obtain ⟨S8, A8⟩ := A7.left hv
                have HA := Lib.hid (show ∃ S, OS R w w10 p S n t3 (.slice (some ⟨gt, 0, none⟩) lt2 ct2) L2 (.slice (some ⟨gg, 0, none⟩) lg3 cg3) G3 from ⟨S8, A8⟩)
                clear hv A7 A8 HPla c b3
                go_wp2_with fail
                go_roundw
                case rel => exact ⟨j + 1, by omega, by go_num, HA⟩
                case measure => simp [intOf]; omega
              · obtain rfl : j = lg3 := by omega
                obtain ⟨S5, A5⟩ := HA.out
                have hlen := HP4.out.1.len
                rw [HLT2.out, HLG3.out] at hlen
                have hln := hdsB_len t3 n
                obtain ⟨hh, hhh⟩ : ∃ hh, (hdsB t3 n).length = hh := ⟨_, rfl⟩
                have HLiv := Lib.hid (fun (w' : World) (S1 : Nat → Prop) (A : OS R w w' p S1 n t3 (.slice (some ⟨gt, 0, none⟩) lt2 ct2) L2 (.slice yg3 j cg3) G3) => HC.out.live w' p S1 n t3 (A.K.vin n0 n1 HP4.out.1.ok (by omega)))
                rw [hhh] at HLiv hlen hln
                clear hhh
                have hq1 : ((lt2 : Int) - (j : Int)) = (hh : Int) := by omega
                have hq3 : decide ((n : Int) < (hh : Int)) = false := decide_eq_false (by omega)
                have hq4 : decide (n < hh) = false := decide_eq_false (by omega)
                clear hlen hln
                go_wp2_with fail
                refine (HLiv.out _ _ A5).mono ?_
                rintro e w8 ⟨rfl, hv⟩
                obtain ⟨S6, A6⟩ := A5.left hv
                clear hv A5
                go_wp2_with fail
                refine (HLiv.out _ _ A6).mono ?_
                rintro e w9 ⟨rfl, hv⟩
                obtain ⟨S7, A7⟩ := A6.left hv
                have HA := Lib.hid (show ∃ S, OS R w w9 p S n t3 (.slice (some ⟨gt, 0, none⟩) lt2 ct2) L2 (.slice yg3 j cg3) G3 from ⟨S7, A7⟩)
                clear hv A6 A7
                go_wp2_with fail
                go_roundw
                case rel => exact ⟨i + 1, L2, G3, t3, by omega, by omega, by go_num, HA, Lib.hid ⟨HP4.out.1.more (by omega), HP4.out.2.1, HP4.out.2.2⟩⟩
                case measure => simp [intOf]; omega
         · have eD : decide (0 ≤ D) = false := decide_eq_false hD
           have HA := Lib.hid (show ∃ S, OS R w _ p S n t2 (.slice yt2 lt2 ct2) L2 (.slice yg lg cg) G from ⟨SD, AD⟩)
           clear AD
           have HX := Lib.hid (And.intro HLT2.out HLG.out)
           go_wp2_with fail
           go_loopw [14] (fun x wr => ∃ (j : Nat), j ≤ lg ∧ x = .int .i64 j ∧ Hid (∃ S, OS R w wr p S n t2 (.slice yt2 lt2 ct2) L2 (.slice yg lg cg) G)) (fun x wr => lg - (intOf x).toNat)
           case atStart => exact ⟨0, by omega, rfl, HA⟩
           case round =>
            clear HA
            obtain ⟨j, hj, rfl, HA⟩ := hrel
            by_cases hjl : j < lg
            · obtain ⟨S5, A5⟩ := HA.out
              obtain ⟨gg, x, rfl, b1, b2, b3, hxg, c⟩ := A5.U.cell2 HLG.out hjl
              have hx := HP2.out.1.Gt x (List.mem_iff_getElem?.2 ⟨j, hxg⟩)
              have HVI := Lib.hid (fun (w' : World) (S1 : Nat → Prop) (A : OS R w w' p S1 n t2 (.slice yt2 lt2 ct2) L2 (.slice (some ⟨gg, 0, none⟩) lg cg) G) => A.K.vin n0 n1 HP2.out.1.ok (by omega))
              have HXU := Lib.hid (gon_u64 HP2.out.1.ok (by omega) n1 hx)
              have HXN := Lib.hid (gon_none n1 hx)
              have HGe := Lib.hid (HC.out.get wr p S5 n t2 x (HVI.out _ _ A5) HXU.out)
              rw [HXN.out] at HGe
              have HPla := Lib.hid (fun (w' : World) (S1 : Nat → Prop) (A : OS R w w' p S1 n t2 (.slice yt2 lt2 ct2) L2 (.slice (some ⟨gg, 0, none⟩) lg cg) G) => HC.out.place w' p S1 n t2 x (HVI.out _ _ A) HXU.out)
              rw [show fndI n t2 x = -1 by unfold fndI; rw [HXN.out]] at HPla
              have HCe := Lib.hid (fun (w' : World) (S1 : Nat → Prop) (A : OS R w w' p S1 n t2 (.slice yt2 lt2 ct2) L2 (.slice (some ⟨gg, 0, none⟩) lg cg) G) => show w'.cell? ⟨gg, j, none⟩ = some (.int .u64 x) ∧ gg < w'.heap.size from by
               obtain ⟨g2, x2, e, _, _, h3, h4, h5⟩ := A.U.cell2 HLG.out hjl
               cases e
               rw [h4] at hxg
               cases hxg
               exact ⟨h5, h3⟩)
              clear hx hxg HXU HXN HVI
              dsimp only at HGe
              go_wp2_with (first
               | (go_at_call 18; refine HGe.out.mono ?_; rintro e w8 ⟨rfl, hv⟩; obtain ⟨S6, A6⟩ := A5.left hv; clear hv A5 HGe c b3)
               | (rw [zeros3]; refine stEn rfl (.tmp 15) (.tmp 119) rfl rfl rfl (show EnAt tEn (w8.alloc (oEn tEn 0 0 0)) w8.heap.size 0 0 0 from blk_new w8 _) ?_; intro w9 h9 ho; have A7 := A6.below (Off.toBelow (trA (tr0 w8) (oEn tEn 0 0 0)) ho (fun j hj e => by omega) (Nat.le_refl _)); obtain ⟨c, b3⟩ := HCe.out _ _ A7; clear h9 ho A6 HCe))
              refine (HPla.out _ _ A7).mono ?_
              rintro e w10 ⟨rfl, hv⟩
              obtain ⟨S8, A8⟩ := A7.left hv
              have HA := Lib.hid (show ∃ S, OS R w w10 p S n t2 (.slice yt2 lt2 ct2) L2 (.slice (some ⟨gg, 0, none⟩) lg cg) G from ⟨S8, A8⟩)
              clear hv A7 A8 HPla c b3
              go_wp2_with fail
              go_roundw
              case rel => exact ⟨j + 1, by omega, by go_num, HA⟩
              case measure => simp [intOf]; omega
            · obtain rfl : j = lg := by omega
              obtain ⟨S5, A5⟩ := HA.out
              have hlen := HP2.out.1.len
              rw [HLT2.out, HLG.out] at hlen
              have hln := hdsB_len t2 n
              obtain ⟨hh, hhh⟩ : ∃ hh, (hdsB t2 n).length = hh := ⟨_, rfl⟩
              have HLiv := Lib.hid (fun (w' : World) (S1 : Nat → Prop) (A : OS R w w' p S1 n t2 (.slice yt2 lt2 ct2) L2 (.slice yg j cg) G) => HC.out.live w' p S1 n t2 (A.K.vin n0 n1 HP2.out.1.ok (by omega)))
              rw [hhh] at HLiv hlen hln
              clear hhh
              have hq1 : ((lt2 : Int) - (j : Int)) = (hh : Int) := by omega
              have hq3 : decide ((n : Int) < (hh : Int)) = false := decide_eq_false (by omega)
              have hq4 : decide (n < hh) = false := decide_eq_false (by omega)
              clear hlen hln
              go_wp2_with fail
              refine (HLiv.out _ _ A5).mono ?_
              rintro e w8 ⟨rfl, hv⟩
              obtain ⟨S6, A6⟩ := A5.left hv
              clear hv A5
              go_wp2_with fail
              refine (HLiv.out _ _ A6).mono ?_
              rintro e w9 ⟨rfl, hv⟩
              obtain ⟨S7, A7⟩ := A6.left hv
              have HA := Lib.hid (show ∃ S, OS R w w9 p S n t2 (.slice yt2 lt2 ct2) L2 (.slice yg j cg) G from ⟨S7, A7⟩)
              clear hv A6 A7
              go_wp2_with fail
              go_roundw
              case rel => exact ⟨i + 1, L2, G, t2, by omega, by omega, by go_num, HA, Lib.hid ⟨HP2.out.1.more (by omega), HP2.out.2.1, HP2.out.2.2⟩⟩
              case measure => simp [intOf]; omega
  · have HKn := Lib.hid (fun w' => poKnown HC.out w')
    obtain ⟨S1, A1⟩ := HA.out
    obtain ⟨yt, ct, hvt, _⟩ := A1.T.form
    obtain ⟨yg, cg, hvg, _⟩ := A1.U.form
    obtain ⟨lt, hlt2⟩ : ∃ lt, L.length = lt := ⟨_, rfl⟩
    obtain ⟨lg, hlg2⟩ : ∃ lg, G.length = lg := ⟨_, rfl⟩
    rw [hlt2] at hvt
    rw [hlg2] at hvg
    subst hvt hvg
    have HB := Lib.hid A1.K.lo
    clear A1 hlt2 hlg2 HA HP
    by_cases hl1 : i < len
    · have hi3 : i = 200 := by omega
      subst hi3
      have e1 : decide ((200 : Int) < (len : Int)) = true := decide_eq_true (by omega)
      have e1n : decide (200 < len) = true := decide_eq_true hl1
      go_wp2_with (go_at_call 9; refine (HKn.out _).mono ?_; rintro e w7 ⟨rfl, hb⟩; have HB := Lib.hid (tr HB.out hb); clear hb)
      go_ret
      exact ⟨rfl, HB.out⟩
    · obtain rfl : i = len := by omega
      go_wp2_with (go_at_call 9; refine (HKn.out _).mono ?_; rintro e w7 ⟨rfl, hb⟩; have HB := Lib.hid (tr HB.out hb); clear hb)
      go_ret
      exact ⟨rfl, HB.out⟩
end Go.Proofs.Ytggmllobcemhhaa.B
