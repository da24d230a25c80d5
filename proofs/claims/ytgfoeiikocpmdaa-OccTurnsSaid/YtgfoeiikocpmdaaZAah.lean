/- The law OccTurns: any map, with a slot taken, or not. -/
import Derived.Test.YtgfoeiikocpmdaaZAad
import Derived.Test.YtgfoeiikocpmdaaZAag
import Derived.Deep.Cut
import Derived.Deep.RegionHeld
namespace Go.Proofs.Ytgfoeiikocpmdaa.B
set_option linter.unusedVariables false
set_option linter.unusedSimpArgs false
set_option maxRecDepth 100000
open Go.ChangeShapes Go.WideShapes Go.RowKit Go.Sort
structure Tn15 (w0 w : World) (b t a d : Nat) (m ma md : Nat → Int) : Prop where
 M : OAt tOM w b m
 T : TbAt w t (tb m)
 A : OAt tOM w a ma
 D : OAt tOM w d md
 lo : Below w0.heap.size w0 w
theorem Tn15.below {w0 w w' : World} {b t a d : Nat} {m ma md : Nat → Int} (h : Tn15 w0 w b t a d m ma md) (hb : Below w.heap.size w w') : Tn15 w0 w' b t a d m ma md := ⟨h.M.below hb, h.T.below hb, h.A.below hb, h.D.below hb, tr h.lo hb⟩
theorem rldOM {o : Oper} {f : Operand → Value} {w : World} {b : Nat} {T : TypeId} {m : Nat → Int} (y : Operand) (ho : o.op = .load 24 y) (hx : f y = .pointer (some ⟨b, 0, none⟩)) (hg : OAt T w b m) : (execOp f o).run Try.prog w = .ok (.value (.agg (ol m).toArray)) w :=
 run_load_part _ y ho b 0 hx _ (ol m) hg Try.underlying24 rfl (by rw [ol_len]; exact iOM) (part_all _)
theorem step_stOM {ops : Array Oper} {o : Oper} {a : Act} {w : World} {K : Act → World → Prop} {Q : Exit → Act → World → Prop} {E : Prop} (hgd : o.guard = none) (y z : Operand) (ho : o.op = .store 24 y z) {b : Nat} (hx : a.eval y = .pointer (some ⟨b, 0, none⟩)) {T : TypeId} {m0 m : Nat → Int} (hy : a.eval z = .agg (ol m).toArray) (hg : OAt T w b m0)
 (h : ∀ w', OAt T w' b m → Off (· = b) w w' → K (a.put o.dst undef) w') : if Region.wanted o (yielded ops a.tmps) = true then Oper.wp Try.prog o a w K Q else E := by
 have hR : OAt T (w.setRow b (ol m).toArray) b m := row_set _ hg
 refine step_store_part hgd _ y z ho b 0 hx (ol m) hy hg (by rw [ol_len]; exact iOM) (by rw [ol_len, List.size_toArray, ol_len]; omega) (ol_one m) ?_
 rw [spliced_all _ _ (by rw [List.size_toArray, ol_len, ol_len])]
 exact h _ hR ⟨rfl, rfl, rfl, by simp, fun k _ hs => setRow_other w b k _ hs⟩
structure Sg15 (w0 w : World) (b t : Nat) (m : Nat → Int) : Prop where
 M : OAt tOM w b m
 T : TbAt w t (tb m)
 lo : Below w0.heap.size w0 w
theorem Sg15.below {w0 w w' : World} {b t : Nat} {m : Nat → Int} (h : Sg15 w0 w b t m) (hb : Below w.heap.size w w') : Sg15 w0 w' b t m := ⟨h.M.below hb, h.T.below hb, tr h.lo hb⟩
theorem Sg15.off {w0 w w' : World} {b t a : Nat} {m : Nat → Int} (h : Sg15 w0 w b t m) (ho : Off (· = a) w w') (hb : b ≠ a) (ht : t ≠ a) (hs : w0.heap.size ≤ a) : Sg15 w0 w' b t m := ⟨h.M.off ho hb, h.T.off ho ht, Off.toBelow h.lo ho (fun j hj e => by omega) (Nat.le_refl _)⟩
set_option maxHeartbeats 25600000 in
theorem occTurns (H : OccC) (w : World) (m : Nat → Int) (hm : okM m) (l s f : Int) (hl : i64r l) (hs : i64r s) (hf : i64r f) :
 Calls Try.prog 3 #[.agg (ol m).toArray, .int .i64 l, .int .i64 s, .int .i64 f] w fun e w' => e = .returned (.bool true) ∧ Below w.heap.size w w' := by
 have hz := zOT
 have HO := Lib.hid (fun w => dOf m hm w)
 have CS := Lib.hid (fun w => H.set m l s w hm hl hs)
 have CD := Lib.hid (fun w => H.drop m l s w hm hl hs)
 have CH := Lib.hid (fun w => H.has m l s w hm hl hs)
 have CN := Lib.hid (fun w => H.next m l f w hm hl hf)
 have CK := Lib.hid (fun w => ocKnown H w)
 have DI := Lib.hid (fun w => dIn l s w)
 have DP := Lib.hid (fun v w => dPut m l s v w)
 have DW := Lib.hid (fun v w => dWords _ (mput_ok hm l s v) w)
 have DN := Lib.hid (fun w => dNext m hm l f w hf.1 hf.2)
 have HB := Lib.hid (trA (tr0 w) (oO tOM m))
 have HM := Lib.hid (show OAt tOM (w.alloc (oO tOM m)) w.heap.size m from blk_new w _)
 obtain ⟨nx, hnx⟩ : ∃ nx, mnext m l f = nx := ⟨_, rfl⟩
 rw [hnx] at CN DN
 obtain ⟨hv, hhv⟩ : ∃ hv, mhas m l s = hv := ⟨_, rfl⟩
 rw [hhv] at CH
 have e1 := beq_self_eq_true nx
 have e2 : (hv == hv) = true := beq_self_eq_true hv
 have HHV := Lib.hid hhv
 clear hnx hhv hm hl hs hf H
 go_enter Try.func3, Try.ntmps3
 go_upto_region 1 with (fail)
 rw [show Obj.cells (ol m).toArray 24 (0, 0) = oO tOM m from rfl]
 generalize w.alloc (oO tOM m) = W at *
 generalize hb : w.heap.size = b at *
 go_upto_region 2 with (first
  | (refine ldOM rfl (.tmp 4) rfl rfl HM.out ?_)
  | (go_at_call 6; refine (HO.out _).mono ?_; rintro e w1 ⟨rfl, hb1⟩; have HM := Lib.hid (HM.out.below hb1); have HB := Lib.hid (show Below w.heap.size w w1 from tr (by rw [hb]; exact HB.out) hb1); clear hb1 HO)
  | (refine stOT rfl (.tmp 9) (.tmp 14) rfl rfl rfl (show TbAt (w1.alloc (oT15 fun _ => false)) w1.heap.size (fun _ => false) from blk_new w1 _) ?_; intro w2 h2 ho; have HT := Lib.hid h2; have HM := Lib.hid ((HM.out.below (trA (tr0 w1) (oT15 fun _ => false))).off ho (by have := HM.out.lt; omega)); have HB := Lib.hid (Off.toBelow (trA HB.out (oT15 fun _ => false)) ho (fun j hj e => by have := HB.out.size; omega) (Nat.le_refl _)); clear h2 ho))
 generalize w1.heap.size = t at *
 have HG := Lib.hid (show Sg15 w w2.drew b t m from ⟨HM.out.below (trD (tr0 w2)), HT.out.below (trD (tr0 w2)), trD HB.out⟩)
 have HM0 := HM
 clear HM HT HB
 simp only [Act.put]
 go_cut [10, 11] from 15 (fun x y w' => ∃ a d, x = .pointer (some ⟨a, 0, none⟩) ∧ y = .pointer (some ⟨d, 0, none⟩) ∧ Hid (Tn15 w w' b t a d m (mput m l s true) (mput m l s false)))
 case first =>
  refine wp_region_held_drew (S := fun w' => OAt tOM w' b m) (by kernel_rfl) HM0.out (fun _ => ?_)
  generalize w2.drew = U0 at *
  refine wpAnyH_take (i := 0) (v := .agg (ol m).toArray) rfl (by kernel_rfl) (by kernel_rfl) (by kernel_rfl) (fun _ _ _ h => h) (Or.inl ⟨by kernel_rfl, fun w' hSw => rldOM (.tmp 4) rfl rfl hSw⟩) HG.out.M ?_
  simp only [List.getElem_toArray, List.getElem_cons_zero, List.getElem_cons_succ, Act.put, List.setIfInBounds_toArray, List.set_cons_zero, List.set_cons_succ]
  refine wpAnyH_take (i := 1) (v := .int .i64 l) rfl (by kernel_rfl) (by kernel_rfl) (by kernel_rfl) (fun _ _ _ h => h) (Or.inl ⟨by kernel_rfl, fun w' hSw => by clear hSw; go_simp⟩) HG.out.M ?_
  simp only [List.getElem_toArray, List.getElem_cons_zero, List.getElem_cons_succ, Act.put, List.setIfInBounds_toArray, List.set_cons_zero, List.set_cons_succ]
  refine wpAnyH_take (i := 2) (v := .int .i64 s) rfl (by kernel_rfl) (by kernel_rfl) (by kernel_rfl) (fun _ _ _ h => h) (Or.inl ⟨by kernel_rfl, fun w' hSw => by clear hSw; go_simp⟩) HG.out.M ?_
  simp only [List.getElem_toArray, List.getElem_cons_zero, List.getElem_cons_succ, Act.put, List.setIfInBounds_toArray, List.set_cons_zero, List.set_cons_succ]
  refine wpAnyH_take (i := 4) (v := .agg (ol m).toArray) rfl (by kernel_rfl) (by kernel_rfl) (by kernel_rfl) (fun _ _ _ h => h) (Or.inl ⟨by kernel_rfl, fun w' hSw => rldOM (.tmp 4) rfl rfl hSw⟩) HG.out.M ?_
  simp only [List.getElem_toArray, List.getElem_cons_zero, List.getElem_cons_succ, Act.put, List.setIfInBounds_toArray, List.set_cons_zero, List.set_cons_succ]
  refine wpAnyH_take (i := 5) (v := .int .i64 l) rfl (by kernel_rfl) (by kernel_rfl) (by kernel_rfl) (fun _ _ _ h => h) (Or.inl ⟨by kernel_rfl, fun w' hSw => by clear hSw; go_simp⟩) HG.out.M ?_
  simp only [List.getElem_toArray, List.getElem_cons_zero, List.getElem_cons_succ, Act.put, List.setIfInBounds_toArray, List.set_cons_zero, List.set_cons_succ]
  refine wpAnyH_take (i := 6) (v := .int .i64 s) rfl (by kernel_rfl) (by kernel_rfl) (by kernel_rfl) (fun _ _ _ h => h) (Or.inl ⟨by kernel_rfl, fun w' hSw => by clear hSw; go_simp⟩) HG.out.M ?_
  simp only [List.getElem_toArray, List.getElem_cons_zero, List.getElem_cons_succ, Act.put, List.setIfInBounds_toArray, List.set_cons_zero, List.set_cons_succ]
  refine wpAnyH_ready (rs := [3, 8, 9]) (by kernel_rfl) (by simp) ?_
  refine AllReadyH.cons rfl (fun K hK => ?_) (AllReadyH.cons rfl (fun K hK => ?_) (AllReadyH.cons rfl (fun K hK => ?_) AllReadyH.nil))
  · go_simp
    go_wp2_with (go_at_call 7; refine (CS.out _).mono ?_; rintro e U1 ⟨rfl, hb⟩; have HG := Lib.hid (HG.out.below hb); clear hb)
    refine hK.out _ _ HG.out.M (fun _ => ?_)
    clear hK K
    refine wpAnyH_ready (rs := [7, 8, 9]) (by kernel_rfl) (by simp) ?_
    refine AllReadyH.cons rfl (fun K hK => ?_) (AllReadyH.cons rfl (fun K hK => ?_) (AllReadyH.cons rfl (fun K hK => ?_) AllReadyH.nil))
    · go_simp
      go_wp2_with (go_at_call 8; refine (CD.out _).mono ?_; rintro e U2 ⟨rfl, hb⟩; have HG := Lib.hid (HG.out.below hb); clear hb)
      refine hK.out _ _ HG.out.M (fun _ => ?_)
      clear hK K
      refine wpAnyH_ready (rs := [8, 9]) (by kernel_rfl) (by simp) ?_
      refine AllReadyH.cons rfl (fun K hK => ?_) (AllReadyH.cons rfl (fun K hK => ?_) AllReadyH.nil)
      · go_simp
        have hb := trA (tr0 U2) (oO tOM fun _ => 0)
        have HA := Lib.hid (show OAt tOM (U2.alloc (oO tOM fun _ => 0)) U2.heap.size (fun _ => 0) from blk_new U2 _)
        have HNA := Lib.hid (And.intro HG.out.M.lt (And.intro HG.out.T.lt HG.out.lo.size))
        have HG := Lib.hid (HG.out.below hb)
        clear hb
        rw [zeros8, show Obj.cells (ol fun _ => 0).toArray 24 (0, 0) = oO tOM (fun _ => 0) from rfl]
        generalize U2.alloc (oO tOM fun _ => 0) = U3 at *
        generalize U2.heap.size = a at *
        refine hK.out _ _ HG.out.M (fun _ => ?_)
        clear hK K
        refine wpAnyH_ready (rs := [9]) (by kernel_rfl) (by simp) ?_
        refine AllReadyH.cons rfl (fun K hK => ?_) AllReadyH.nil
        · go_simp
          have hb := trA (tr0 U3) (oO tOM fun _ => 0)
          have HD := Lib.hid (show OAt tOM (U3.alloc (oO tOM fun _ => 0)) U3.heap.size (fun _ => 0) from blk_new U3 _)
          have HND := Lib.hid (And.intro HG.out.M.lt (And.intro HG.out.T.lt HG.out.lo.size))
          have HAD := Lib.hid (show a ≠ U3.heap.size from Nat.ne_of_lt HA.out.lt)
          have HA := Lib.hid (HA.out.below hb)
          have HG := Lib.hid (HG.out.below hb)
          clear hb
          rw [zeros8, show Obj.cells (ol fun _ => 0).toArray 24 (0, 0) = oO tOM (fun _ => 0) from rfl]
          generalize U3.alloc (oO tOM fun _ => 0) = U4 at *
          generalize U3.heap.size = d at *
          refine hK.out _ _ HG.out.M (fun _ => ?_)
          clear hK K
          refine wpAnyH_ready (rs := [10]) (by kernel_rfl) (by simp) ?_
          refine AllReadyH.cons rfl (fun K hK => ?_) AllReadyH.nil
          refine step_stOM rfl (.tmp 10) (.tmp 18) rfl rfl rfl HA.out ?_
          intro V1 h1 ho
          have HG := Lib.hid (Sg15.off HG.out ho (Ne.symm (Nat.ne_of_gt HNA.out.1)) (Ne.symm (Nat.ne_of_gt HNA.out.2.1)) HNA.out.2.2)
          have HD := Lib.hid (HD.out.off ho (Ne.symm HAD.out))
          refine hK.out _ _ HG.out.M (fun _ => ?_)
          clear hK K ho
          have HA := Lib.hid h1
          clear h1
          simp only [Act.put]
          refine wpAnyH_ready (rs := [11]) (by kernel_rfl) (by simp) ?_
          refine AllReadyH.cons rfl (fun K hK => ?_) AllReadyH.nil
          refine step_stOM rfl (.tmp 11) (.tmp 22) rfl rfl rfl HD.out ?_
          intro V2 h2 ho
          have HG := Lib.hid (Sg15.off HG.out ho (Ne.symm (Nat.ne_of_gt HND.out.1)) (Ne.symm (Nat.ne_of_gt HND.out.2.1)) HND.out.2.2)
          have HA := Lib.hid (HA.out.off ho HAD.out)
          refine hK.out _ _ HG.out.M (fun _ => ?_)
          clear hK K ho
          have HD := Lib.hid h2
          clear h2
          simp only [Act.put]
          refine wpAnyH_done (by kernel_rfl) ?_ _
          go_wp2_with fail
          go_meet
          case rel => exact ⟨a, d, rfl, rfl, Lib.hid ⟨HG.out.M, HG.out.T, HA.out, HD.out, HG.out.lo⟩⟩
      · go_simp
        have hb := trA (tr0 U2) (oO tOM fun _ => 0)
        have HD := Lib.hid (show OAt tOM (U2.alloc (oO tOM fun _ => 0)) U2.heap.size (fun _ => 0) from blk_new U2 _)
        have HND := Lib.hid (And.intro HG.out.M.lt (And.intro HG.out.T.lt HG.out.lo.size))
        have HG := Lib.hid (HG.out.below hb)
        clear hb
        rw [zeros8, show Obj.cells (ol fun _ => 0).toArray 24 (0, 0) = oO tOM (fun _ => 0) from rfl]
        generalize U2.alloc (oO tOM fun _ => 0) = U5 at *
        generalize U2.heap.size = d at *
        refine hK.out _ _ HG.out.M (fun _ => ?_)
        clear hK K
        refine wpAnyH_ready (rs := [8]) (by kernel_rfl) (by simp) ?_
        refine AllReadyH.cons rfl (fun K hK => ?_) AllReadyH.nil
        · go_simp
          have hb := trA (tr0 U5) (oO tOM fun _ => 0)
          have HA := Lib.hid (show OAt tOM (U5.alloc (oO tOM fun _ => 0)) U5.heap.size (fun _ => 0) from blk_new U5 _)
          have HNA := Lib.hid (And.intro HG.out.M.lt (And.intro HG.out.T.lt HG.out.lo.size))
          have HAD := Lib.hid (show U5.heap.size ≠ d from Nat.ne_of_gt HD.out.lt)
          have HD := Lib.hid (HD.out.below hb)
          have HG := Lib.hid (HG.out.below hb)
          clear hb
          rw [zeros8, show Obj.cells (ol fun _ => 0).toArray 24 (0, 0) = oO tOM (fun _ => 0) from rfl]
          generalize U5.alloc (oO tOM fun _ => 0) = U6 at *
          generalize U5.heap.size = a at *
          refine hK.out _ _ HG.out.M (fun _ => ?_)
          clear hK K
          refine wpAnyH_ready (rs := [10]) (by kernel_rfl) (by simp) ?_
          refine AllReadyH.cons rfl (fun K hK => ?_) AllReadyH.nil
          refine step_stOM rfl (.tmp 10) (.tmp 18) rfl rfl rfl HA.out ?_
          intro V1 h1 ho
          have HG := Lib.hid (Sg15.off HG.out ho (Ne.symm (Nat.ne_of_gt HNA.out.1)) (Ne.symm (Nat.ne_of_gt HNA.out.2.1)) HNA.out.2.2)
          have HD := Lib.hid (HD.out.off ho (Ne.symm HAD.out))
          refine hK.out _ _ HG.out.M (fun _ => ?_)
          clear hK K ho
          have HA := Lib.hid h1
          clear h1
          simp only [Act.put]
          refine wpAnyH_ready (rs := [11]) (by kernel_rfl) (by simp) ?_
          refine AllReadyH.cons rfl (fun K hK => ?_) AllReadyH.nil
          refine step_stOM rfl (.tmp 11) (.tmp 22) rfl rfl rfl HD.out ?_
          intro V2 h2 ho
          have HG := Lib.hid (Sg15.off HG.out ho (Ne.symm (Nat.ne_of_gt HND.out.1)) (Ne.symm (Nat.ne_of_gt HND.out.2.1)) HND.out.2.2)
          have HA := Lib.hid (HA.out.off ho HAD.out)
          refine hK.out _ _ HG.out.M (fun _ => ?_)
          clear hK K ho
          have HD := Lib.hid h2
          clear h2
          simp only [Act.put]
          refine wpAnyH_done (by kernel_rfl) ?_ _
          go_wp2_with fail
          go_meet
          case rel => exact ⟨a, d, rfl, rfl, Lib.hid ⟨HG.out.M, HG.out.T, HA.out, HD.out, HG.out.lo⟩⟩
    · go_simp
      have hb := trA (tr0 U1) (oO tOM fun _ => 0)
      have HA := Lib.hid (show OAt tOM (U1.alloc (oO tOM fun _ => 0)) U1.heap.size (fun _ => 0) from blk_new U1 _)
      have HNA := Lib.hid (And.intro HG.out.M.lt (And.intro HG.out.T.lt HG.out.lo.size))
      have HG := Lib.hid (HG.out.below hb)
      clear hb
      rw [zeros8, show Obj.cells (ol fun _ => 0).toArray 24 (0, 0) = oO tOM (fun _ => 0) from rfl]
      generalize U1.alloc (oO tOM fun _ => 0) = U7 at *
      generalize U1.heap.size = a at *
      refine hK.out _ _ HG.out.M (fun _ => ?_)
      clear hK K
      refine wpAnyH_ready (rs := [7, 9]) (by kernel_rfl) (by simp) ?_
      refine AllReadyH.cons rfl (fun K hK => ?_) (AllReadyH.cons rfl (fun K hK => ?_) AllReadyH.nil)
      · go_simp
        go_wp2_with (go_at_call 8; refine (CD.out _).mono ?_; rintro e U8 ⟨rfl, hb⟩; have HG := Lib.hid (HG.out.below hb); have HA := Lib.hid (HA.out.below hb); clear hb)
        refine hK.out _ _ HG.out.M (fun _ => ?_)
        clear hK K
        refine wpAnyH_ready (rs := [9]) (by kernel_rfl) (by simp) ?_
        refine AllReadyH.cons rfl (fun K hK => ?_) AllReadyH.nil
        · go_simp
          have hb := trA (tr0 U8) (oO tOM fun _ => 0)
          have HD := Lib.hid (show OAt tOM (U8.alloc (oO tOM fun _ => 0)) U8.heap.size (fun _ => 0) from blk_new U8 _)
          have HND := Lib.hid (And.intro HG.out.M.lt (And.intro HG.out.T.lt HG.out.lo.size))
          have HAD := Lib.hid (show a ≠ U8.heap.size from Nat.ne_of_lt HA.out.lt)
          have HA := Lib.hid (HA.out.below hb)
          have HG := Lib.hid (HG.out.below hb)
          clear hb
          rw [zeros8, show Obj.cells (ol fun _ => 0).toArray 24 (0, 0) = oO tOM (fun _ => 0) from rfl]
          generalize U8.alloc (oO tOM fun _ => 0) = U9 at *
          generalize U8.heap.size = d at *
          refine hK.out _ _ HG.out.M (fun _ => ?_)
          clear hK K
          refine wpAnyH_ready (rs := [10]) (by kernel_rfl) (by simp) ?_
          refine AllReadyH.cons rfl (fun K hK => ?_) AllReadyH.nil
          refine step_stOM rfl (.tmp 10) (.tmp 18) rfl rfl rfl HA.out ?_
          intro V1 h1 ho
          have HG := Lib.hid (Sg15.off HG.out ho (Ne.symm (Nat.ne_of_gt HNA.out.1)) (Ne.symm (Nat.ne_of_gt HNA.out.2.1)) HNA.out.2.2)
          have HD := Lib.hid (HD.out.off ho (Ne.symm HAD.out))
          refine hK.out _ _ HG.out.M (fun _ => ?_)
          clear hK K ho
          have HA := Lib.hid h1
          clear h1
          simp only [Act.put]
          refine wpAnyH_ready (rs := [11]) (by kernel_rfl) (by simp) ?_
          refine AllReadyH.cons rfl (fun K hK => ?_) AllReadyH.nil
          refine step_stOM rfl (.tmp 11) (.tmp 22) rfl rfl rfl HD.out ?_
          intro V2 h2 ho
          have HG := Lib.hid (Sg15.off HG.out ho (Ne.symm (Nat.ne_of_gt HND.out.1)) (Ne.symm (Nat.ne_of_gt HND.out.2.1)) HND.out.2.2)
          have HA := Lib.hid (HA.out.off ho HAD.out)
          refine hK.out _ _ HG.out.M (fun _ => ?_)
          clear hK K ho
          have HD := Lib.hid h2
          clear h2
          simp only [Act.put]
          refine wpAnyH_done (by kernel_rfl) ?_ _
          go_wp2_with fail
          go_meet
          case rel => exact ⟨a, d, rfl, rfl, Lib.hid ⟨HG.out.M, HG.out.T, HA.out, HD.out, HG.out.lo⟩⟩
      · go_simp
        have hb := trA (tr0 U7) (oO tOM fun _ => 0)
        have HD := Lib.hid (show OAt tOM (U7.alloc (oO tOM fun _ => 0)) U7.heap.size (fun _ => 0) from blk_new U7 _)
        have HND := Lib.hid (And.intro HG.out.M.lt (And.intro HG.out.T.lt HG.out.lo.size))
        have HAD := Lib.hid (show a ≠ U7.heap.size from Nat.ne_of_lt HA.out.lt)
        have HA := Lib.hid (HA.out.below hb)
        have HG := Lib.hid (HG.out.below hb)
        clear hb
        rw [zeros8, show Obj.cells (ol fun _ => 0).toArray 24 (0, 0) = oO tOM (fun _ => 0) from rfl]
        generalize U7.alloc (oO tOM fun _ => 0) = U10 at *
        generalize U7.heap.size = d at *
        refine hK.out _ _ HG.out.M (fun _ => ?_)
        clear hK K
        refine wpAnyH_ready (rs := [7]) (by kernel_rfl) (by simp) ?_
        refine AllReadyH.cons rfl (fun K hK => ?_) AllReadyH.nil
        · go_simp
          go_wp2_with (go_at_call 8; refine (CD.out _).mono ?_; rintro e U11 ⟨rfl, hb⟩; have HG := Lib.hid (HG.out.below hb); have HA := Lib.hid (HA.out.below hb); have HD := Lib.hid (HD.out.below hb); clear hb)
          refine hK.out _ _ HG.out.M (fun _ => ?_)
          clear hK K
          refine wpAnyH_ready (rs := [10]) (by kernel_rfl) (by simp) ?_
          refine AllReadyH.cons rfl (fun K hK => ?_) AllReadyH.nil
          refine step_stOM rfl (.tmp 10) (.tmp 18) rfl rfl rfl HA.out ?_
          intro V1 h1 ho
          have HG := Lib.hid (Sg15.off HG.out ho (Ne.symm (Nat.ne_of_gt HNA.out.1)) (Ne.symm (Nat.ne_of_gt HNA.out.2.1)) HNA.out.2.2)
          have HD := Lib.hid (HD.out.off ho (Ne.symm HAD.out))
          refine hK.out _ _ HG.out.M (fun _ => ?_)
          clear hK K ho
          have HA := Lib.hid h1
          clear h1
          simp only [Act.put]
          refine wpAnyH_ready (rs := [11]) (by kernel_rfl) (by simp) ?_
          refine AllReadyH.cons rfl (fun K hK => ?_) AllReadyH.nil
          refine step_stOM rfl (.tmp 11) (.tmp 22) rfl rfl rfl HD.out ?_
          intro V2 h2 ho
          have HG := Lib.hid (Sg15.off HG.out ho (Ne.symm (Nat.ne_of_gt HND.out.1)) (Ne.symm (Nat.ne_of_gt HND.out.2.1)) HND.out.2.2)
          have HA := Lib.hid (HA.out.off ho HAD.out)
          refine hK.out _ _ HG.out.M (fun _ => ?_)
          clear hK K ho
          have HD := Lib.hid h2
          clear h2
          simp only [Act.put]
          refine wpAnyH_done (by kernel_rfl) ?_ _
          go_wp2_with fail
          go_meet
          case rel => exact ⟨a, d, rfl, rfl, Lib.hid ⟨HG.out.M, HG.out.T, HA.out, HD.out, HG.out.lo⟩⟩
    · go_simp
      have hb := trA (tr0 U1) (oO tOM fun _ => 0)
      have HD := Lib.hid (show OAt tOM (U1.alloc (oO tOM fun _ => 0)) U1.heap.size (fun _ => 0) from blk_new U1 _)
      have HND := Lib.hid (And.intro HG.out.M.lt (And.intro HG.out.T.lt HG.out.lo.size))
      have HG := Lib.hid (HG.out.below hb)
      clear hb
      rw [zeros8, show Obj.cells (ol fun _ => 0).toArray 24 (0, 0) = oO tOM (fun _ => 0) from rfl]
      generalize U1.alloc (oO tOM fun _ => 0) = U12 at *
      generalize U1.heap.size = d at *
      refine hK.out _ _ HG.out.M (fun _ => ?_)
      clear hK K
      refine wpAnyH_ready (rs := [7, 8]) (by kernel_rfl) (by simp) ?_
      refine AllReadyH.cons rfl (fun K hK => ?_) (AllReadyH.cons rfl (fun K hK => ?_) AllReadyH.nil)
      · go_simp
        go_wp2_with (go_at_call 8; refine (CD.out _).mono ?_; rintro e U13 ⟨rfl, hb⟩; have HG := Lib.hid (HG.out.below hb); have HD := Lib.hid (HD.out.below hb); clear hb)
        refine hK.out _ _ HG.out.M (fun _ => ?_)
        clear hK K
        refine wpAnyH_ready (rs := [8]) (by kernel_rfl) (by simp) ?_
        refine AllReadyH.cons rfl (fun K hK => ?_) AllReadyH.nil
        · go_simp
          have hb := trA (tr0 U13) (oO tOM fun _ => 0)
          have HA := Lib.hid (show OAt tOM (U13.alloc (oO tOM fun _ => 0)) U13.heap.size (fun _ => 0) from blk_new U13 _)
          have HNA := Lib.hid (And.intro HG.out.M.lt (And.intro HG.out.T.lt HG.out.lo.size))
          have HAD := Lib.hid (show U13.heap.size ≠ d from Nat.ne_of_gt HD.out.lt)
          have HD := Lib.hid (HD.out.below hb)
          have HG := Lib.hid (HG.out.below hb)
          clear hb
          rw [zeros8, show Obj.cells (ol fun _ => 0).toArray 24 (0, 0) = oO tOM (fun _ => 0) from rfl]
          generalize U13.alloc (oO tOM fun _ => 0) = U14 at *
          generalize U13.heap.size = a at *
          refine hK.out _ _ HG.out.M (fun _ => ?_)
          clear hK K
          refine wpAnyH_ready (rs := [10]) (by kernel_rfl) (by simp) ?_
          refine AllReadyH.cons rfl (fun K hK => ?_) AllReadyH.nil
          refine step_stOM rfl (.tmp 10) (.tmp 18) rfl rfl rfl HA.out ?_
          intro V1 h1 ho
          have HG := Lib.hid (Sg15.off HG.out ho (Ne.symm (Nat.ne_of_gt HNA.out.1)) (Ne.symm (Nat.ne_of_gt HNA.out.2.1)) HNA.out.2.2)
          have HD := Lib.hid (HD.out.off ho (Ne.symm HAD.out))
          refine hK.out _ _ HG.out.M (fun _ => ?_)
          clear hK K ho
          have HA := Lib.hid h1
          clear h1
          simp only [Act.put]
          refine wpAnyH_ready (rs := [11]) (by kernel_rfl) (by simp) ?_
          refine AllReadyH.cons rfl (fun K hK => ?_) AllReadyH.nil
          refine step_stOM rfl (.tmp 11) (.tmp 22) rfl rfl rfl HD.out ?_
          intro V2 h2 ho
          have HG := Lib.hid (Sg15.off HG.out ho (Ne.symm (Nat.ne_of_gt HND.out.1)) (Ne.symm (Nat.ne_of_gt HND.out.2.1)) HND.out.2.2)
          have HA := Lib.hid (HA.out.off ho HAD.out)
          refine hK.out _ _ HG.out.M (fun _ => ?_)
          clear hK K ho
          have HD := Lib.hid h2
          clear h2
          simp only [Act.put]
          refine wpAnyH_done (by kernel_rfl) ?_ _
          go_wp2_with fail
          go_meet
          case rel => exact ⟨a, d, rfl, rfl, Lib.hid ⟨HG.out.M, HG.out.T, HA.out, HD.out, HG.out.lo⟩⟩
      · go_simp
        have hb := trA (tr0 U12) (oO tOM fun _ => 0)
        have HA := Lib.hid (show OAt tOM (U12.alloc (oO tOM fun _ => 0)) U12.heap.size (fun _ => 0) from blk_new U12 _)
        have HNA := Lib.hid (And.intro HG.out.M.lt (And.intro HG.out.T.lt HG.out.lo.size))
        have HAD := Lib.hid (show U12.heap.size ≠ d from Nat.ne_of_gt HD.out.lt)
        have HD := Lib.hid (HD.out.below hb)
        have HG := Lib.hid (HG.out.below hb)
        clear hb
        rw [zeros8, show Obj.cells (ol fun _ => 0).toArray 24 (0, 0) = oO tOM (fun _ => 0) from rfl]
        generalize U12.alloc (oO tOM fun _ => 0) = U15 at *
        generalize U12.heap.size = a at *
        refine hK.out _ _ HG.out.M (fun _ => ?_)
        clear hK K
        refine wpAnyH_ready (rs := [7]) (by kernel_rfl) (by simp) ?_
        refine AllReadyH.cons rfl (fun K hK => ?_) AllReadyH.nil
        · go_simp
          go_wp2_with (go_at_call 8; refine (CD.out _).mono ?_; rintro e U16 ⟨rfl, hb⟩; have HG := Lib.hid (HG.out.below hb); have HA := Lib.hid (HA.out.below hb); have HD := Lib.hid (HD.out.below hb); clear hb)
          refine hK.out _ _ HG.out.M (fun _ => ?_)
          clear hK K
          refine wpAnyH_ready (rs := [10]) (by kernel_rfl) (by simp) ?_
          refine AllReadyH.cons rfl (fun K hK => ?_) AllReadyH.nil
          refine step_stOM rfl (.tmp 10) (.tmp 18) rfl rfl rfl HA.out ?_
          intro V1 h1 ho
          have HG := Lib.hid (Sg15.off HG.out ho (Ne.symm (Nat.ne_of_gt HNA.out.1)) (Ne.symm (Nat.ne_of_gt HNA.out.2.1)) HNA.out.2.2)
          have HD := Lib.hid (HD.out.off ho (Ne.symm HAD.out))
          refine hK.out _ _ HG.out.M (fun _ => ?_)
          clear hK K ho
          have HA := Lib.hid h1
          clear h1
          simp only [Act.put]
          refine wpAnyH_ready (rs := [11]) (by kernel_rfl) (by simp) ?_
          refine AllReadyH.cons rfl (fun K hK => ?_) AllReadyH.nil
          refine step_stOM rfl (.tmp 11) (.tmp 22) rfl rfl rfl HD.out ?_
          intro V2 h2 ho
          have HG := Lib.hid (Sg15.off HG.out ho (Ne.symm (Nat.ne_of_gt HND.out.1)) (Ne.symm (Nat.ne_of_gt HND.out.2.1)) HND.out.2.2)
          have HA := Lib.hid (HA.out.off ho HAD.out)
          refine hK.out _ _ HG.out.M (fun _ => ?_)
          clear hK K ho
          have HD := Lib.hid h2
          clear h2
          simp only [Act.put]
          refine wpAnyH_done (by kernel_rfl) ?_ _
          go_wp2_with fail
          go_meet
          case rel => exact ⟨a, d, rfl, rfl, Lib.hid ⟨HG.out.M, HG.out.T, HA.out, HD.out, HG.out.lo⟩⟩
  · go_simp
    have hb := trA (tr0 U0) (oO tOM fun _ => 0)
    have HA := Lib.hid (show OAt tOM (U0.alloc (oO tOM fun _ => 0)) U0.heap.size (fun _ => 0) from blk_new U0 _)
    have HNA := Lib.hid (And.intro HG.out.M.lt (And.intro HG.out.T.lt HG.out.lo.size))
    have HG := Lib.hid (HG.out.below hb)
    clear hb
    rw [zeros8, show Obj.cells (ol fun _ => 0).toArray 24 (0, 0) = oO tOM (fun _ => 0) from rfl]
    generalize U0.alloc (oO tOM fun _ => 0) = U17 at *
    generalize U0.heap.size = a at *
    refine hK.out _ _ HG.out.M (fun _ => ?_)
    clear hK K
    refine wpAnyH_ready (rs := [3, 9]) (by kernel_rfl) (by simp) ?_
    refine AllReadyH.cons rfl (fun K hK => ?_) (AllReadyH.cons rfl (fun K hK => ?_) AllReadyH.nil)
    · go_simp
      go_wp2_with (go_at_call 7; refine (CS.out _).mono ?_; rintro e U18 ⟨rfl, hb⟩; have HG := Lib.hid (HG.out.below hb); have HA := Lib.hid (HA.out.below hb); clear hb)
      refine hK.out _ _ HG.out.M (fun _ => ?_)
      clear hK K
      refine wpAnyH_ready (rs := [7, 9]) (by kernel_rfl) (by simp) ?_
      refine AllReadyH.cons rfl (fun K hK => ?_) (AllReadyH.cons rfl (fun K hK => ?_) AllReadyH.nil)
      · go_simp
        go_wp2_with (go_at_call 8; refine (CD.out _).mono ?_; rintro e U19 ⟨rfl, hb⟩; have HG := Lib.hid (HG.out.below hb); have HA := Lib.hid (HA.out.below hb); clear hb)
        refine hK.out _ _ HG.out.M (fun _ => ?_)
        clear hK K
        refine wpAnyH_ready (rs := [9]) (by kernel_rfl) (by simp) ?_
        refine AllReadyH.cons rfl (fun K hK => ?_) AllReadyH.nil
        · go_simp
          have hb := trA (tr0 U19) (oO tOM fun _ => 0)
          have HD := Lib.hid (show OAt tOM (U19.alloc (oO tOM fun _ => 0)) U19.heap.size (fun _ => 0) from blk_new U19 _)
          have HND := Lib.hid (And.intro HG.out.M.lt (And.intro HG.out.T.lt HG.out.lo.size))
          have HAD := Lib.hid (show a ≠ U19.heap.size from Nat.ne_of_lt HA.out.lt)
          have HA := Lib.hid (HA.out.below hb)
          have HG := Lib.hid (HG.out.below hb)
          clear hb
          rw [zeros8, show Obj.cells (ol fun _ => 0).toArray 24 (0, 0) = oO tOM (fun _ => 0) from rfl]
          generalize U19.alloc (oO tOM fun _ => 0) = U20 at *
          generalize U19.heap.size = d at *
          refine hK.out _ _ HG.out.M (fun _ => ?_)
          clear hK K
          refine wpAnyH_ready (rs := [10]) (by kernel_rfl) (by simp) ?_
          refine AllReadyH.cons rfl (fun K hK => ?_) AllReadyH.nil
          refine step_stOM rfl (.tmp 10) (.tmp 18) rfl rfl rfl HA.out ?_
          intro V1 h1 ho
          have HG := Lib.hid (Sg15.off HG.out ho (Ne.symm (Nat.ne_of_gt HNA.out.1)) (Ne.symm (Nat.ne_of_gt HNA.out.2.1)) HNA.out.2.2)
          have HD := Lib.hid (HD.out.off ho (Ne.symm HAD.out))
          refine hK.out _ _ HG.out.M (fun _ => ?_)
          clear hK K ho
          have HA := Lib.hid h1
          clear h1
          simp only [Act.put]
          refine wpAnyH_ready (rs := [11]) (by kernel_rfl) (by simp) ?_
          refine AllReadyH.cons rfl (fun K hK => ?_) AllReadyH.nil
          refine step_stOM rfl (.tmp 11) (.tmp 22) rfl rfl rfl HD.out ?_
          intro V2 h2 ho
          have HG := Lib.hid (Sg15.off HG.out ho (Ne.symm (Nat.ne_of_gt HND.out.1)) (Ne.symm (Nat.ne_of_gt HND.out.2.1)) HND.out.2.2)
          have HA := Lib.hid (HA.out.off ho HAD.out)
          refine hK.out _ _ HG.out.M (fun _ => ?_)
          clear hK K ho
          have HD := Lib.hid h2
          clear h2
          simp only [Act.put]
          refine wpAnyH_done (by kernel_rfl) ?_ _
          go_wp2_with fail
          go_meet
          case rel => exact ⟨a, d, rfl, rfl, Lib.hid ⟨HG.out.M, HG.out.T, HA.out, HD.out, HG.out.lo⟩⟩
      · go_simp
        have hb := trA (tr0 U18) (oO tOM fun _ => 0)
        have HD := Lib.hid (show OAt tOM (U18.alloc (oO tOM fun _ => 0)) U18.heap.size (fun _ => 0) from blk_new U18 _)
        have HND := Lib.hid (And.intro HG.out.M.lt (And.intro HG.out.T.lt HG.out.lo.size))
        have HAD := Lib.hid (show a ≠ U18.heap.size from Nat.ne_of_lt HA.out.lt)
        have HA := Lib.hid (HA.out.below hb)
        have HG := Lib.hid (HG.out.below hb)
        clear hb
        rw [zeros8, show Obj.cells (ol fun _ => 0).toArray 24 (0, 0) = oO tOM (fun _ => 0) from rfl]
        generalize U18.alloc (oO tOM fun _ => 0) = U21 at *
        generalize U18.heap.size = d at *
        refine hK.out _ _ HG.out.M (fun _ => ?_)
        clear hK K
        refine wpAnyH_ready (rs := [7]) (by kernel_rfl) (by simp) ?_
        refine AllReadyH.cons rfl (fun K hK => ?_) AllReadyH.nil
        · go_simp
          go_wp2_with (go_at_call 8; refine (CD.out _).mono ?_; rintro e U22 ⟨rfl, hb⟩; have HG := Lib.hid (HG.out.below hb); have HA := Lib.hid (HA.out.below hb); have HD := Lib.hid (HD.out.below hb); clear hb)
          refine hK.out _ _ HG.out.M (fun _ => ?_)
          clear hK K
          refine wpAnyH_ready (rs := [10]) (by kernel_rfl) (by simp) ?_
          refine AllReadyH.cons rfl (fun K hK => ?_) AllReadyH.nil
          refine step_stOM rfl (.tmp 10) (.tmp 18) rfl rfl rfl HA.out ?_
          intro V1 h1 ho
          have HG := Lib.hid (Sg15.off HG.out ho (Ne.symm (Nat.ne_of_gt HNA.out.1)) (Ne.symm (Nat.ne_of_gt HNA.out.2.1)) HNA.out.2.2)
          have HD := Lib.hid (HD.out.off ho (Ne.symm HAD.out))
          refine hK.out _ _ HG.out.M (fun _ => ?_)
          clear hK K ho
          have HA := Lib.hid h1
          clear h1
          simp only [Act.put]
          refine wpAnyH_ready (rs := [11]) (by kernel_rfl) (by simp) ?_
          refine AllReadyH.cons rfl (fun K hK => ?_) AllReadyH.nil
          refine step_stOM rfl (.tmp 11) (.tmp 22) rfl rfl rfl HD.out ?_
          intro V2 h2 ho
          have HG := Lib.hid (Sg15.off HG.out ho (Ne.symm (Nat.ne_of_gt HND.out.1)) (Ne.symm (Nat.ne_of_gt HND.out.2.1)) HND.out.2.2)
          have HA := Lib.hid (HA.out.off ho HAD.out)
          refine hK.out _ _ HG.out.M (fun _ => ?_)
          clear hK K ho
          have HD := Lib.hid h2
          clear h2
          simp only [Act.put]
          refine wpAnyH_done (by kernel_rfl) ?_ _
          go_wp2_with fail
          go_meet
          case rel => exact ⟨a, d, rfl, rfl, Lib.hid ⟨HG.out.M, HG.out.T, HA.out, HD.out, HG.out.lo⟩⟩
    · go_simp
      have hb := trA (tr0 U17) (oO tOM fun _ => 0)
      have HD := Lib.hid (show OAt tOM (U17.alloc (oO tOM fun _ => 0)) U17.heap.size (fun _ => 0) from blk_new U17 _)
      have HND := Lib.hid (And.intro HG.out.M.lt (And.intro HG.out.T.lt HG.out.lo.size))
      have HAD := Lib.hid (show a ≠ U17.heap.size from Nat.ne_of_lt HA.out.lt)
      have HA := Lib.hid (HA.out.below hb)
      have HG := Lib.hid (HG.out.below hb)
      clear hb
      rw [zeros8, show Obj.cells (ol fun _ => 0).toArray 24 (0, 0) = oO tOM (fun _ => 0) from rfl]
      generalize U17.alloc (oO tOM fun _ => 0) = U23 at *
      generalize U17.heap.size = d at *
      refine hK.out _ _ HG.out.M (fun _ => ?_)
      clear hK K
      refine wpAnyH_ready (rs := [3]) (by kernel_rfl) (by simp) ?_
      refine AllReadyH.cons rfl (fun K hK => ?_) AllReadyH.nil
      · go_simp
        go_wp2_with (go_at_call 7; refine (CS.out _).mono ?_; rintro e U24 ⟨rfl, hb⟩; have HG := Lib.hid (HG.out.below hb); have HA := Lib.hid (HA.out.below hb); have HD := Lib.hid (HD.out.below hb); clear hb)
        refine hK.out _ _ HG.out.M (fun _ => ?_)
        clear hK K
        refine wpAnyH_ready (rs := [7]) (by kernel_rfl) (by simp) ?_
        refine AllReadyH.cons rfl (fun K hK => ?_) AllReadyH.nil
        · go_simp
          go_wp2_with (go_at_call 8; refine (CD.out _).mono ?_; rintro e U25 ⟨rfl, hb⟩; have HG := Lib.hid (HG.out.below hb); have HA := Lib.hid (HA.out.below hb); have HD := Lib.hid (HD.out.below hb); clear hb)
          refine hK.out _ _ HG.out.M (fun _ => ?_)
          clear hK K
          refine wpAnyH_ready (rs := [10]) (by kernel_rfl) (by simp) ?_
          refine AllReadyH.cons rfl (fun K hK => ?_) AllReadyH.nil
          refine step_stOM rfl (.tmp 10) (.tmp 18) rfl rfl rfl HA.out ?_
          intro V1 h1 ho
          have HG := Lib.hid (Sg15.off HG.out ho (Ne.symm (Nat.ne_of_gt HNA.out.1)) (Ne.symm (Nat.ne_of_gt HNA.out.2.1)) HNA.out.2.2)
          have HD := Lib.hid (HD.out.off ho (Ne.symm HAD.out))
          refine hK.out _ _ HG.out.M (fun _ => ?_)
          clear hK K ho
          have HA := Lib.hid h1
          clear h1
          simp only [Act.put]
          refine wpAnyH_ready (rs := [11]) (by kernel_rfl) (by simp) ?_
          refine AllReadyH.cons rfl (fun K hK => ?_) AllReadyH.nil
          refine step_stOM rfl (.tmp 11) (.tmp 22) rfl rfl rfl HD.out ?_
          intro V2 h2 ho
          have HG := Lib.hid (Sg15.off HG.out ho (Ne.symm (Nat.ne_of_gt HND.out.1)) (Ne.symm (Nat.ne_of_gt HND.out.2.1)) HND.out.2.2)
          have HA := Lib.hid (HA.out.off ho HAD.out)
          refine hK.out _ _ HG.out.M (fun _ => ?_)
          clear hK K ho
          have HD := Lib.hid h2
          clear h2
          simp only [Act.put]
          refine wpAnyH_done (by kernel_rfl) ?_ _
          go_wp2_with fail
          go_meet
          case rel => exact ⟨a, d, rfl, rfl, Lib.hid ⟨HG.out.M, HG.out.T, HA.out, HD.out, HG.out.lo⟩⟩
  · go_simp
    have hb := trA (tr0 U0) (oO tOM fun _ => 0)
    have HD := Lib.hid (show OAt tOM (U0.alloc (oO tOM fun _ => 0)) U0.heap.size (fun _ => 0) from blk_new U0 _)
    have HND := Lib.hid (And.intro HG.out.M.lt (And.intro HG.out.T.lt HG.out.lo.size))
    have HG := Lib.hid (HG.out.below hb)
    clear hb
    rw [zeros8, show Obj.cells (ol fun _ => 0).toArray 24 (0, 0) = oO tOM (fun _ => 0) from rfl]
    generalize U0.alloc (oO tOM fun _ => 0) = U26 at *
    generalize U0.heap.size = d at *
    refine hK.out _ _ HG.out.M (fun _ => ?_)
    clear hK K
    refine wpAnyH_ready (rs := [3, 8]) (by kernel_rfl) (by simp) ?_
    refine AllReadyH.cons rfl (fun K hK => ?_) (AllReadyH.cons rfl (fun K hK => ?_) AllReadyH.nil)
    · go_simp
      go_wp2_with (go_at_call 7; refine (CS.out _).mono ?_; rintro e U27 ⟨rfl, hb⟩; have HG := Lib.hid (HG.out.below hb); have HD := Lib.hid (HD.out.below hb); clear hb)
      refine hK.out _ _ HG.out.M (fun _ => ?_)
      clear hK K
      refine wpAnyH_ready (rs := [7, 8]) (by kernel_rfl) (by simp) ?_
      refine AllReadyH.cons rfl (fun K hK => ?_) (AllReadyH.cons rfl (fun K hK => ?_) AllReadyH.nil)
      · go_simp
        go_wp2_with (go_at_call 8; refine (CD.out _).mono ?_; rintro e U28 ⟨rfl, hb⟩; have HG := Lib.hid (HG.out.below hb); have HD := Lib.hid (HD.out.below hb); clear hb)
        refine hK.out _ _ HG.out.M (fun _ => ?_)
        clear hK K
        refine wpAnyH_ready (rs := [8]) (by kernel_rfl) (by simp) ?_
        refine AllReadyH.cons rfl (fun K hK => ?_) AllReadyH.nil
        · go_simp
          have hb := trA (tr0 U28) (oO tOM fun _ => 0)
          have HA := Lib.hid (show OAt tOM (U28.alloc (oO tOM fun _ => 0)) U28.heap.size (fun _ => 0) from blk_new U28 _)
          have HNA := Lib.hid (And.intro HG.out.M.lt (And.intro HG.out.T.lt HG.out.lo.size))
          have HAD := Lib.hid (show U28.heap.size ≠ d from Nat.ne_of_gt HD.out.lt)
          have HD := Lib.hid (HD.out.below hb)
          have HG := Lib.hid (HG.out.below hb)
          clear hb
          rw [zeros8, show Obj.cells (ol fun _ => 0).toArray 24 (0, 0) = oO tOM (fun _ => 0) from rfl]
          generalize U28.alloc (oO tOM fun _ => 0) = U29 at *
          generalize U28.heap.size = a at *
          refine hK.out _ _ HG.out.M (fun _ => ?_)
          clear hK K
          refine wpAnyH_ready (rs := [10]) (by kernel_rfl) (by simp) ?_
          refine AllReadyH.cons rfl (fun K hK => ?_) AllReadyH.nil
          refine step_stOM rfl (.tmp 10) (.tmp 18) rfl rfl rfl HA.out ?_
          intro V1 h1 ho
          have HG := Lib.hid (Sg15.off HG.out ho (Ne.symm (Nat.ne_of_gt HNA.out.1)) (Ne.symm (Nat.ne_of_gt HNA.out.2.1)) HNA.out.2.2)
          have HD := Lib.hid (HD.out.off ho (Ne.symm HAD.out))
          refine hK.out _ _ HG.out.M (fun _ => ?_)
          clear hK K ho
          have HA := Lib.hid h1
          clear h1
          simp only [Act.put]
          refine wpAnyH_ready (rs := [11]) (by kernel_rfl) (by simp) ?_
          refine AllReadyH.cons rfl (fun K hK => ?_) AllReadyH.nil
          refine step_stOM rfl (.tmp 11) (.tmp 22) rfl rfl rfl HD.out ?_
          intro V2 h2 ho
          have HG := Lib.hid (Sg15.off HG.out ho (Ne.symm (Nat.ne_of_gt HND.out.1)) (Ne.symm (Nat.ne_of_gt HND.out.2.1)) HND.out.2.2)
          have HA := Lib.hid (HA.out.off ho HAD.out)
          refine hK.out _ _ HG.out.M (fun _ => ?_)
          clear hK K ho
          have HD := Lib.hid h2
          clear h2
          simp only [Act.put]
          refine wpAnyH_done (by kernel_rfl) ?_ _
          go_wp2_with fail
          go_meet
          case rel => exact ⟨a, d, rfl, rfl, Lib.hid ⟨HG.out.M, HG.out.T, HA.out, HD.out, HG.out.lo⟩⟩
      · go_simp
        have hb := trA (tr0 U27) (oO tOM fun _ => 0)
        have HA := Lib.hid (show OAt tOM (U27.alloc (oO tOM fun _ => 0)) U27.heap.size (fun _ => 0) from blk_new U27 _)
        have HNA := Lib.hid (And.intro HG.out.M.lt (And.intro HG.out.T.lt HG.out.lo.size))
        have HAD := Lib.hid (show U27.heap.size ≠ d from Nat.ne_of_gt HD.out.lt)
        have HD := Lib.hid (HD.out.below hb)
        have HG := Lib.hid (HG.out.below hb)
        clear hb
        rw [zeros8, show Obj.cells (ol fun _ => 0).toArray 24 (0, 0) = oO tOM (fun _ => 0) from rfl]
        generalize U27.alloc (oO tOM fun _ => 0) = U30 at *
        generalize U27.heap.size = a at *
        refine hK.out _ _ HG.out.M (fun _ => ?_)
        clear hK K
        refine wpAnyH_ready (rs := [7]) (by kernel_rfl) (by simp) ?_
        refine AllReadyH.cons rfl (fun K hK => ?_) AllReadyH.nil
        · go_simp
          go_wp2_with (go_at_call 8; refine (CD.out _).mono ?_; rintro e U31 ⟨rfl, hb⟩; have HG := Lib.hid (HG.out.below hb); have HA := Lib.hid (HA.out.below hb); have HD := Lib.hid (HD.out.below hb); clear hb)
          refine hK.out _ _ HG.out.M (fun _ => ?_)
          clear hK K
          refine wpAnyH_ready (rs := [10]) (by kernel_rfl) (by simp) ?_
          refine AllReadyH.cons rfl (fun K hK => ?_) AllReadyH.nil
          refine step_stOM rfl (.tmp 10) (.tmp 18) rfl rfl rfl HA.out ?_
          intro V1 h1 ho
          have HG := Lib.hid (Sg15.off HG.out ho (Ne.symm (Nat.ne_of_gt HNA.out.1)) (Ne.symm (Nat.ne_of_gt HNA.out.2.1)) HNA.out.2.2)
          have HD := Lib.hid (HD.out.off ho (Ne.symm HAD.out))
          refine hK.out _ _ HG.out.M (fun _ => ?_)
          clear hK K ho
          have HA := Lib.hid h1
          clear h1
          simp only [Act.put]
          refine wpAnyH_ready (rs := [11]) (by kernel_rfl) (by simp) ?_
          refine AllReadyH.cons rfl (fun K hK => ?_) AllReadyH.nil
          refine step_stOM rfl (.tmp 11) (.tmp 22) rfl rfl rfl HD.out ?_
          intro V2 h2 ho
          have HG := Lib.hid (Sg15.off HG.out ho (Ne.symm (Nat.ne_of_gt HND.out.1)) (Ne.symm (Nat.ne_of_gt HND.out.2.1)) HND.out.2.2)
          have HA := Lib.hid (HA.out.off ho HAD.out)
          refine hK.out _ _ HG.out.M (fun _ => ?_)
          clear hK K ho
          have HD := Lib.hid h2
          clear h2
          simp only [Act.put]
          refine wpAnyH_done (by kernel_rfl) ?_ _
          go_wp2_with fail
          go_meet
          case rel => exact ⟨a, d, rfl, rfl, Lib.hid ⟨HG.out.M, HG.out.T, HA.out, HD.out, HG.out.lo⟩⟩
    · go_simp
      have hb := trA (tr0 U26) (oO tOM fun _ => 0)
      have HA := Lib.hid (show OAt tOM (U26.alloc (oO tOM fun _ => 0)) U26.heap.size (fun _ => 0) from blk_new U26 _)
      have HNA := Lib.hid (And.intro HG.out.M.lt (And.intro HG.out.T.lt HG.out.lo.size))
      have HAD := Lib.hid (show U26.heap.size ≠ d from Nat.ne_of_gt HD.out.lt)
      have HD := Lib.hid (HD.out.below hb)
      have HG := Lib.hid (HG.out.below hb)
      clear hb
      rw [zeros8, show Obj.cells (ol fun _ => 0).toArray 24 (0, 0) = oO tOM (fun _ => 0) from rfl]
      generalize U26.alloc (oO tOM fun _ => 0) = U32 at *
      generalize U26.heap.size = a at *
      refine hK.out _ _ HG.out.M (fun _ => ?_)
      clear hK K
      refine wpAnyH_ready (rs := [3]) (by kernel_rfl) (by simp) ?_
      refine AllReadyH.cons rfl (fun K hK => ?_) AllReadyH.nil
      · go_simp
        go_wp2_with (go_at_call 7; refine (CS.out _).mono ?_; rintro e U33 ⟨rfl, hb⟩; have HG := Lib.hid (HG.out.below hb); have HA := Lib.hid (HA.out.below hb); have HD := Lib.hid (HD.out.below hb); clear hb)
        refine hK.out _ _ HG.out.M (fun _ => ?_)
        clear hK K
        refine wpAnyH_ready (rs := [7]) (by kernel_rfl) (by simp) ?_
        refine AllReadyH.cons rfl (fun K hK => ?_) AllReadyH.nil
        · go_simp
          go_wp2_with (go_at_call 8; refine (CD.out _).mono ?_; rintro e U34 ⟨rfl, hb⟩; have HG := Lib.hid (HG.out.below hb); have HA := Lib.hid (HA.out.below hb); have HD := Lib.hid (HD.out.below hb); clear hb)
          refine hK.out _ _ HG.out.M (fun _ => ?_)
          clear hK K
          refine wpAnyH_ready (rs := [10]) (by kernel_rfl) (by simp) ?_
          refine AllReadyH.cons rfl (fun K hK => ?_) AllReadyH.nil
          refine step_stOM rfl (.tmp 10) (.tmp 18) rfl rfl rfl HA.out ?_
          intro V1 h1 ho
          have HG := Lib.hid (Sg15.off HG.out ho (Ne.symm (Nat.ne_of_gt HNA.out.1)) (Ne.symm (Nat.ne_of_gt HNA.out.2.1)) HNA.out.2.2)
          have HD := Lib.hid (HD.out.off ho (Ne.symm HAD.out))
          refine hK.out _ _ HG.out.M (fun _ => ?_)
          clear hK K ho
          have HA := Lib.hid h1
          clear h1
          simp only [Act.put]
          refine wpAnyH_ready (rs := [11]) (by kernel_rfl) (by simp) ?_
          refine AllReadyH.cons rfl (fun K hK => ?_) AllReadyH.nil
          refine step_stOM rfl (.tmp 11) (.tmp 22) rfl rfl rfl HD.out ?_
          intro V2 h2 ho
          have HG := Lib.hid (Sg15.off HG.out ho (Ne.symm (Nat.ne_of_gt HND.out.1)) (Ne.symm (Nat.ne_of_gt HND.out.2.1)) HND.out.2.2)
          have HA := Lib.hid (HA.out.off ho HAD.out)
          refine hK.out _ _ HG.out.M (fun _ => ?_)
          clear hK K ho
          have HD := Lib.hid h2
          clear h2
          simp only [Act.put]
          refine wpAnyH_done (by kernel_rfl) ?_ _
          go_wp2_with fail
          go_meet
          case rel => exact ⟨a, d, rfl, rfl, Lib.hid ⟨HG.out.M, HG.out.T, HA.out, HD.out, HG.out.lo⟩⟩
 case rest =>
  obtain ⟨a, d, rfl, rfl, HR⟩ := hcut
  clear HG HM0 CS CD
  have QH := (show inS l s = true ∨ inS l s = false by cases inS l s <;> simp)
  rcases QH with hi | hi
  · obtain ⟨l0, l1, s0, s1⟩ := inS_true hi
    rw [hi] at DI
    obtain ⟨k, rfl⟩ := Int.eq_ofNat_of_zero_le l0
    obtain ⟨j, rfl⟩ := Int.eq_ofNat_of_zero_le s0
    have c := HR.out.T.c (k * 64 + j) (by omega)
    rw [tb_at _ _ _ (by omega), show bit (m k) j = hv by rw [← HHV.out]; unfold mhas; rw [hi, Bool.true_and]; simp] at c
    have hlt := HR.out.T.lt
    clear hi
    go_upto_region 6 with (go_at_call 9; refine (DI.out _).mono ?_; rintro e w3 ⟨rfl, rfl⟩)
    clear c hlt
    have hg := gcell
    refine wp_region_quiet_below (by kernel_rfl) (by kernel_rfl) ?_
    repeat (first
     | go_big_quiet_skip
     | (go_big_quiet_want; first
         | (refine qldOM (.tmp 10) rfl rfl HR.out.A.grown ?_; go_simp; go_big_quiet_on)
         | (refine qldOM (.tmp 11) rfl rfl HR.out.D.grown ?_; go_simp; go_big_quiet_on)
         | (refine qldOM (.tmp 4) rfl rfl HR.out.M.grown ?_; go_simp; go_big_quiet_on)
         | (refine qldOT (.tmp 9) rfl rfl HR.out.T.grown ?_; go_simp; go_big_quiet_on)
         | (refine qeqOM (.tmp 34) (.tmp 39) _ rfl rfl rfl ?_; go_simp; go_big_quiet_on)
         | (refine qeqOM (.tmp 43) (.tmp 48) _ rfl rfl rfl ?_; go_simp; go_big_quiet_on)
         | (go_big_quiet_op; first | go_big_quiet_on | go_big_quiet_call (first
             | (go_at_call 10; exact Calls.regrown_of (CK.out _))
             | (go_at_call 12; exact Calls.regrown_of (DP.out _ _))
             | (go_at_call 11; exact Calls.regrown_of (DW.out _ _))
             | (go_at_call 13; exact Calls.regrown_of (CH.out _))
             | (go_at_call 14; exact Calls.regrown_of (CN.out _))
             | (go_at_call 15; exact Calls.regrown_of (DN.out _))))))
    refine wpQuiet_nil ?_
    intro _ hw'
    obtain ⟨⟨dq, osq⟩, hw''⟩ := hw'
    subst hw''
    have HX := Lib.hid (tr HR.out.lo (below_regrown _ dq osq))
    dsimp only at HX ⊢
    go_wp2_with fail
    go_ret
    exact ⟨rfl, HX.out⟩
  · rw [hi] at DI
    have hv0 : false = hv := by rw [← HHV.out]; unfold mhas; rw [hi]; rfl
    subst hv0
    clear hi
    go_upto_region 6 with (go_at_call 9; refine (DI.out _).mono ?_; rintro e w3 ⟨rfl, rfl⟩)
    have hg := gcell
    refine wp_region_quiet_below (by kernel_rfl) (by kernel_rfl) ?_
    repeat (first
     | go_big_quiet_skip
     | (go_big_quiet_want; first
         | (refine qldOM (.tmp 10) rfl rfl HR.out.A.grown ?_; go_simp; go_big_quiet_on)
         | (refine qldOM (.tmp 11) rfl rfl HR.out.D.grown ?_; go_simp; go_big_quiet_on)
         | (refine qldOM (.tmp 4) rfl rfl HR.out.M.grown ?_; go_simp; go_big_quiet_on)
         | (refine qldOT (.tmp 9) rfl rfl HR.out.T.grown ?_; go_simp; go_big_quiet_on)
         | (refine qeqOM (.tmp 34) (.tmp 39) _ rfl rfl rfl ?_; go_simp; go_big_quiet_on)
         | (refine qeqOM (.tmp 43) (.tmp 48) _ rfl rfl rfl ?_; go_simp; go_big_quiet_on)
         | (go_big_quiet_op; first | go_big_quiet_on | go_big_quiet_call (first
             | (go_at_call 10; exact Calls.regrown_of (CK.out _))
             | (go_at_call 12; exact Calls.regrown_of (DP.out _ _))
             | (go_at_call 11; exact Calls.regrown_of (DW.out _ _))
             | (go_at_call 13; exact Calls.regrown_of (CH.out _))
             | (go_at_call 14; exact Calls.regrown_of (CN.out _))
             | (go_at_call 15; exact Calls.regrown_of (DN.out _))))))
    refine wpQuiet_nil ?_
    intro _ hw'
    obtain ⟨⟨dq, osq⟩, hw''⟩ := hw'
    subst hw''
    have HX := Lib.hid (tr HR.out.lo (below_regrown _ dq osq))
    dsimp only at HX ⊢
    go_wp2_with fail
    go_ret
    exact ⟨rfl, HX.out⟩
end Go.Proofs.Ytgfoeiikocpmdaa.B
