/- Several texts in one: Layer 17: the document's Push. Layer 17's laws: what package chain answers, as its contracts (over whatever chains are made of); what a law's loop holds. -/
import Derived.Test.YtopkmjiilnoeeaaZAac
import Derived.Test.YtopkmjiilnoeeaaZAO
import Derived.Deep.RegionHeld
namespace Go.Proofs.Ytopkmjiilnoeeaa.B
set_option linter.unusedVariables false
set_option linter.unusedSimpArgs false
set_option maxRecDepth 100000
open Go.ChangeShapes Go.WideShapes Go.RowKit Go.Sort
def oE : Obj := .cells #[] tAt (0, 0)
def PushPost (w : World) (B : Nat) (v : Value) (n : Nat) (L : List (Kp × Int)) (k : Kp) (i : Int) (e : Ending) (w' : World) : Prop := ∃ v', e = .returned (.tuple #[v', .bool (chCan n L i)]) ∧ TrAt w' B v' (chPush n L k i) ∧ Below w.heap.size w w' ∧ (v' = v ∨ ∀ g, v'.ownBlock = some g → w.heap.size ≤ g)
theorem chPush_no {n : Nat} {L : List (Kp × Int)} {k : Kp} {i : Int} (h : chCan n L i = false) : chPush n L k i = L := by unfold chPush; rw [h]; rfl
theorem chPush_yes {n : Nat} {L : List (Kp × Int)} {k : Kp} {i : Int} (h : chCan n L i = true) : chPush n L k i = L ++ [(k, i)] := by unfold chPush; rw [h]; rfl
theorem jPushNo {w : World} {B : Nat} {v : Value} {L : List (Kp × Int)} (h : TrAt w B v L) (hl : L.length < 4000) (n : Nat) (k : Kp) (i : Int) (hc : chCan n L i = false) : Calls Try.prog 9 #[v, .int .i64 n, kv k, .int .i64 i] w fun e w' => PushPost w B v n L k i e w' := by
 unfold PushPost
 rw [hc, chPush_no hc]
 have HB0 := Lib.hid (trA (tr0 w) (oKp k))
 have HT := Lib.hid (h.below HB0.out)
 have HF := Lib.hid (jFind HT.out (by omega) i)
 show Calls Try.prog 9 #[v, .int .i64 n, .agg #[.int .i64 k.1, .int .i64 k.2], .int .i64 i] w _
 by_cases h0 : i < 0
 · clear h hc HF
   go_enter Try.func9, Try.ntmps9
   go_wp2_with fail
   go_ret2
   exact ⟨v, rfl, HT.out, HB0.out, .inl rfl⟩
 · by_cases h1 : (n : Int) ≤ i
   · clear h hc HF
     go_enter Try.func9, Try.ntmps9
     go_wp2_with fail
     go_ret2
     exact ⟨v, rfl, HT.out, HB0.out, .inl rfl⟩
   · have hx : chHas L i = true := by
      cases hh : chHas L i with
      | true => rfl
      | false => rw [(chCan_iff n L i).2 ⟨⟨by omega, by omega⟩, hh⟩] at hc; cases hc
     have h2 : 0 ≤ chIx L i := by rw [chHas_ix] at hx; simpa using hx
     clear h hc hx
     generalize chIx L i = X at *
     go_enter Try.func9, Try.ntmps9
     go_wp2_with fail
     refine HF.out.mono ?_
     rintro e w1 ⟨rfl, rfl⟩
     clear HF
     go_wp2_with fail
     go_ret2
     exact ⟨v, rfl, HT.out, HB0.out, .inl rfl⟩
set_option maxHeartbeats 1600000 in
theorem jPushYes {w : World} {B : Nat} {v : Value} {L : List (Kp × Int)} (h : TrAt w B v L) (hB : B ≤ w.heap.size) (hl : L.length < 4000) (n : Nat) (k : Kp) (i : Int) (hc : chCan n L i = true) : Calls Try.prog 9 #[v, .int .i64 n, kv k, .int .i64 i] w fun e w' => PushPost w B v n L k i e w' := by
 unfold PushPost
 rw [hc, chPush_yes hc]
 obtain ⟨⟨h0, h1⟩, h2⟩ := (chCan_iff n L i).1 hc
 have HB0 := Lib.hid (trA (tr0 w) (oKp k))
 have HT := Lib.hid (h.below HB0.out)
 have HK := Lib.hid (show KeyAt (w.alloc (oKp k)) w.heap.size k from blk_new w _)
 have HF := Lib.hid (jFind HT.out (by omega) i)
 have h3 : chIx L i < 0 := by rw [chHas_ix] at h2; simpa using h2
 have HM := Lib.hid hB
 show Calls Try.prog 9 #[v, .int .i64 n, .agg #[.int .i64 k.1, .int .i64 k.2], .int .i64 i] w _
 clear h hc h2 hB
 generalize chIx L i = X at *
 go_enter Try.func9, Try.ntmps9
 go_upto_region 1 with (fail)
 rw [show Obj.cells #[Value.int .i64 k.1, .int .i64 k.2] 27 (0, 0) = oKp k from rfl]
 generalize w.alloc (oKp k) = W at *
 go_upto_region 3 with (go_at_call 11; refine HF.out.mono ?_; rintro e w1 ⟨rfl, rfl⟩)
 clear HF
 refine wp_region_held_drew (S := fun w' => KeyAt w' w.heap.size k) (by kernel_rfl) (HK.out.below (trD (tr0 W))) (fun _ => ?_)
 have hX := Lib.hid (HK.out.below (trD (tr0 W)))
 have HT := Lib.hid (HT.out.below (trD (tr0 W)))
 have HB := Lib.hid (trD HB0.out)
 have hs0 : w.heap.size + 1 ≤ W.drew.heap.size := lt_of_block hX.out
 generalize W.drew = U at *
 clear HB0 HK
 refine wpAnyH_take (i := 1) (v := v) rfl (by kernel_rfl) (by kernel_rfl) (by kernel_rfl) (fun _ _ _ h => h) (Or.inl ⟨by rfl, fun w' hSw => by clear hSw; go_simp⟩) hX.out ?_
 simp only [List.getElem_toArray, List.getElem_cons_zero, List.getElem_cons_succ, Act.put, List.setIfInBounds_toArray, List.set_cons_zero, List.set_cons_succ]
 refine wpAnyH_take (i := 3) (v := kv k) rfl (by kernel_rfl) (by kernel_rfl) (by kernel_rfl) (fun _ _ _ h => h) (Or.inl ⟨by rfl, fun w' hSw => by have c := KeyAt.c hSw; obtain ⟨c0, c1, c2⟩ := c; clear hSw; show _ = _; unfold kv kl; go_simp⟩) hX.out ?_
 simp only [List.getElem_toArray, List.getElem_cons_zero, List.getElem_cons_succ, Act.put, List.setIfInBounds_toArray, List.set_cons_zero, List.set_cons_succ]
 refine wpAnyH_take (i := 4) (v := .int .i64 i) rfl (by kernel_rfl) (by kernel_rfl) (by kernel_rfl) (fun _ _ _ h => h) (Or.inl ⟨by rfl, fun w' hSw => by clear hSw; go_simp⟩) hX.out ?_
 simp only [List.getElem_toArray, List.getElem_cons_zero, List.getElem_cons_succ, Act.put, List.setIfInBounds_toArray, List.set_cons_zero, List.set_cons_succ]
 refine wpAnyH_take (i := 5) (v := .agg #[.int .i64 k.1, .int .i64 k.2, .int .i64 i]) rfl (by kernel_rfl) (by kernel_rfl) (by kernel_rfl) (fun _ _ _ h => h) (Or.inl ⟨by rfl, fun w' hSw => by clear hSw; unfold kv kl; go_simp⟩) hX.out ?_
 simp only [List.getElem_toArray, List.getElem_cons_zero, List.getElem_cons_succ, Act.put, List.setIfInBounds_toArray, List.set_cons_zero, List.set_cons_succ]
 refine wpAnyH_ready (rs := [0, 6]) (by kernel_rfl) (by simp) ?_
 refine AllReadyH.cons rfl (fun K hK => ?_) (AllReadyH.cons rfl (fun K hK => ?_) AllReadyH.nil)
 · go_simp
   rw [show Obj.cells #[] 65 (0, 0) = oE from rfl]
   have hbb := trA (tr0 U) oE
   have HE := Lib.hid (show TrAt (U.alloc oE) (w.heap.size + 1) (.slice (some ⟨U.heap.size, 0, none⟩) 0 0) [] from emptyTr U (w.heap.size + 1) hs0)
   replace HT := Lib.hid (HT.out.below hbb)
   have hs1 : w.heap.size + 1 ≤ U.heap.size := hs0
   replace hX := Lib.hid (hX.out.below hbb)
   replace HB := Lib.hid (tr HB.out hbb)
   replace hs0 := Nat.le_trans hs0 hbb.size
   clear hbb
   generalize U.alloc oE = U1 at *
   generalize U.heap.size = eb at *
   refine hK.out _ _ hX.out (fun _ => ?_)
   clear hK K
   refine wpAnyH_ready (rs := [2, 6]) (by kernel_rfl) (by simp) ?_
   refine AllReadyH.cons rfl (fun K hK => ?_) (AllReadyH.cons rfl (fun K hK => ?_) AllReadyH.nil)
   · refine stepAllTr rfl (.tmp 24) (.tmp 25) rfl rfl HE.out rfl HT.out (by omega) hs0 ?_
     intro v1 U2 h1 ho1
     have HA := Lib.hid h1
     replace hX := Lib.hid (hX.out.off ho1 (fun e => by omega))
     replace HB := Lib.hid (Off.toBelow HB.out ho1 (fun j hj e => by omega) (Nat.le_refl _))
     replace hs0 := Nat.le_trans hs0 ho1.size
     clear h1 ho1 HT HE
     refine hK.out _ _ hX.out (fun _ => ?_)
     clear hK K
     refine wpAnyH_ready (rs := [6]) (by kernel_rfl) (by simp) ?_
     refine AllReadyH.cons rfl (fun K hK => ?_) AllReadyH.nil
     go_simp
     rw [show Obj.cells #[Value.int .i64 k.1, .int .i64 k.2, .int .i64 i] 65 (0, 0) = oTh (k, i) from rfl]
     have hbb := trA (tr0 U2) (oTh (k, i))
     have HY := Lib.hid (blk_new U2 (oTh (k, i)))
     replace HA := Lib.hid (HA.out.below hbb)
     replace hX := Lib.hid (hX.out.below hbb)
     replace HB := Lib.hid (tr HB.out hbb)
     replace hs0 := Nat.le_trans hs0 hbb.size
     clear hbb
     generalize U2.alloc (oTh (k, i)) = U3 at *
     generalize U2.heap.size = xb at *
     refine hK.out _ _ hX.out (fun _ => ?_)
     clear hK K
     refine wpAnyH_ready (rs := [7]) (by kernel_rfl) (by simp) ?_
     refine AllReadyH.cons rfl (fun K hK => ?_) AllReadyH.nil
     refine stepTr rfl (.tmp 26) (.tmp 30) rfl rfl HA.out rfl HY.out (by omega) hs0 ?_
     intro v2 U4 h2 ho2 _
     have HR := Lib.hid (And.intro (h2.mono (B2 := B) (by have := HM.out; omega)) (show ∀ g, v2.ownBlock = some g → w.heap.size ≤ g from fun g hg => by have := (h2.block hg).1; omega))
     replace hX := Lib.hid (hX.out.off ho2 (fun e => by have := (HA.out.block e).1; omega))
     replace HB := Lib.hid (Off.toBelow HB.out ho2 (fun j hj e => by have := (HA.out.block e).1; omega) (Nat.le_refl _))
     clear h2 ho2 HA HY
     refine hK.out _ _ hX.out (fun _ => ?_)
     clear hK K
     refine wpAnyH_take (i := 8) (v := v2) rfl (by kernel_rfl) (by kernel_rfl) (by kernel_rfl) (fun _ _ _ h => h) (Or.inl ⟨by rfl, fun w' hSw => by clear hSw; go_simp⟩) hX.out ?_
     simp only [List.getElem_toArray, List.getElem_cons_zero, List.getElem_cons_succ, Act.put, List.setIfInBounds_toArray, List.set_cons_zero, List.set_cons_succ]
     refine wpAnyH_take (i := 9) (v := .bool true) rfl (by kernel_rfl) (by kernel_rfl) (by kernel_rfl) (fun _ _ _ h => h) (Or.inl ⟨by rfl, fun w' hSw => by clear hSw; go_simp⟩) hX.out ?_
     simp only [List.getElem_toArray, List.getElem_cons_zero, List.getElem_cons_succ, Act.put, List.setIfInBounds_toArray, List.set_cons_zero, List.set_cons_succ]
     refine wpAnyH_done (by kernel_rfl) ?_ _
     go_wp2_with fail
     go_ret2
     exact ⟨v2, rfl, HR.out.1, HB.out, .inr HR.out.2⟩
   · go_simp
     rw [show Obj.cells #[Value.int .i64 k.1, .int .i64 k.2, .int .i64 i] 65 (0, 0) = oTh (k, i) from rfl]
     have hbb := trA (tr0 U1) (oTh (k, i))
     have HY := Lib.hid (blk_new U1 (oTh (k, i)))
     replace HT := Lib.hid (HT.out.below hbb)
     have HYE := Lib.hid (Nat.ne_of_gt (HE.out.block (b := eb) rfl).2)
     replace HE := Lib.hid (HE.out.below hbb)
     replace hX := Lib.hid (hX.out.below hbb)
     replace HB := Lib.hid (tr HB.out hbb)
     replace hs0 := Nat.le_trans hs0 hbb.size
     clear hbb
     generalize U1.alloc (oTh (k, i)) = U2 at *
     generalize U1.heap.size = xb at *
     refine hK.out _ _ hX.out (fun _ => ?_)
     clear hK K
     refine wpAnyH_ready (rs := [2]) (by kernel_rfl) (by simp) ?_
     refine AllReadyH.cons rfl (fun K hK => ?_) AllReadyH.nil
     refine stepAllTr rfl (.tmp 24) (.tmp 25) rfl rfl HE.out rfl HT.out (by omega) hs0 ?_
     intro v1 U3 h1 ho1
     have HA := Lib.hid h1
     replace hX := Lib.hid (hX.out.off ho1 (fun e => by omega))
     replace HY := Lib.hid (ho1.at HY.out HYE.out)
     replace HB := Lib.hid (Off.toBelow HB.out ho1 (fun j hj e => by omega) (Nat.le_refl _))
     replace hs0 := Nat.le_trans hs0 ho1.size
     clear h1 ho1 HT HE
     refine hK.out _ _ hX.out (fun _ => ?_)
     clear hK K
     refine wpAnyH_ready (rs := [7]) (by kernel_rfl) (by simp) ?_
     refine AllReadyH.cons rfl (fun K hK => ?_) AllReadyH.nil
     refine stepTr rfl (.tmp 26) (.tmp 30) rfl rfl HA.out rfl HY.out (by omega) hs0 ?_
     intro v2 U4 h2 ho2 _
     have HR := Lib.hid (And.intro (h2.mono (B2 := B) (by have := HM.out; omega)) (show ∀ g, v2.ownBlock = some g → w.heap.size ≤ g from fun g hg => by have := (h2.block hg).1; omega))
     replace hX := Lib.hid (hX.out.off ho2 (fun e => by have := (HA.out.block e).1; omega))
     replace HB := Lib.hid (Off.toBelow HB.out ho2 (fun j hj e => by have := (HA.out.block e).1; omega) (Nat.le_refl _))
     clear h2 ho2 HA HY
     refine hK.out _ _ hX.out (fun _ => ?_)
     clear hK K
     refine wpAnyH_take (i := 8) (v := v2) rfl (by kernel_rfl) (by kernel_rfl) (by kernel_rfl) (fun _ _ _ h => h) (Or.inl ⟨by rfl, fun w' hSw => by clear hSw; go_simp⟩) hX.out ?_
     simp only [List.getElem_toArray, List.getElem_cons_zero, List.getElem_cons_succ, Act.put, List.setIfInBounds_toArray, List.set_cons_zero, List.set_cons_succ]
     refine wpAnyH_take (i := 9) (v := .bool true) rfl (by kernel_rfl) (by kernel_rfl) (by kernel_rfl) (fun _ _ _ h => h) (Or.inl ⟨by rfl, fun w' hSw => by clear hSw; go_simp⟩) hX.out ?_
     simp only [List.getElem_toArray, List.getElem_cons_zero, List.getElem_cons_succ, Act.put, List.setIfInBounds_toArray, List.set_cons_zero, List.set_cons_succ]
     refine wpAnyH_done (by kernel_rfl) ?_ _
     go_wp2_with fail
     go_ret2
     exact ⟨v2, rfl, HR.out.1, HB.out, .inr HR.out.2⟩
 · go_simp
   rw [show Obj.cells #[Value.int .i64 k.1, .int .i64 k.2, .int .i64 i] 65 (0, 0) = oTh (k, i) from rfl]
   have hbb := trA (tr0 U) (oTh (k, i))
   have HY := Lib.hid (blk_new U (oTh (k, i)))
   replace HT := Lib.hid (HT.out.below hbb)
   replace hX := Lib.hid (hX.out.below hbb)
   replace HB := Lib.hid (tr HB.out hbb)
   replace hs0 := Nat.le_trans hs0 hbb.size
   clear hbb
   generalize U.alloc (oTh (k, i)) = U1 at *
   generalize U.heap.size = xb at *
   refine hK.out _ _ hX.out (fun _ => ?_)
   clear hK K
   refine wpAnyH_ready (rs := [0]) (by kernel_rfl) (by simp) ?_
   refine AllReadyH.cons rfl (fun K hK => ?_) AllReadyH.nil
   go_simp
   rw [show Obj.cells #[] 65 (0, 0) = oE from rfl]
   have hbb := trA (tr0 U1) oE
   have HE := Lib.hid (show TrAt (U1.alloc oE) (w.heap.size + 1) (.slice (some ⟨U1.heap.size, 0, none⟩) 0 0) [] from emptyTr U1 (w.heap.size + 1) hs0)
   replace HT := Lib.hid (HT.out.below hbb)
   have HYE := Lib.hid (Nat.ne_of_lt (lt_of_block HY.out))
   replace HY := Lib.hid (blk_below hbb HY.out (lt_of_block HY.out))
   have hs1 : w.heap.size + 1 ≤ U1.heap.size := hs0
   replace hX := Lib.hid (hX.out.below hbb)
   replace HB := Lib.hid (tr HB.out hbb)
   replace hs0 := Nat.le_trans hs0 hbb.size
   clear hbb
   generalize U1.alloc oE = U2 at *
   generalize U1.heap.size = eb at *
   refine hK.out _ _ hX.out (fun _ => ?_)
   clear hK K
   refine wpAnyH_ready (rs := [2]) (by kernel_rfl) (by simp) ?_
   refine AllReadyH.cons rfl (fun K hK => ?_) AllReadyH.nil
   refine stepAllTr rfl (.tmp 24) (.tmp 25) rfl rfl HE.out rfl HT.out (by omega) hs0 ?_
   intro v1 U3 h1 ho1
   have HA := Lib.hid h1
   replace hX := Lib.hid (hX.out.off ho1 (fun e => by omega))
   replace HY := Lib.hid (ho1.at HY.out HYE.out)
   replace HB := Lib.hid (Off.toBelow HB.out ho1 (fun j hj e => by omega) (Nat.le_refl _))
   replace hs0 := Nat.le_trans hs0 ho1.size
   clear h1 ho1 HT HE
   refine hK.out _ _ hX.out (fun _ => ?_)
   clear hK K
   refine wpAnyH_ready (rs := [7]) (by kernel_rfl) (by simp) ?_
   refine AllReadyH.cons rfl (fun K hK => ?_) AllReadyH.nil
   refine stepTr rfl (.tmp 26) (.tmp 30) rfl rfl HA.out rfl HY.out (by omega) hs0 ?_
   intro v2 U4 h2 ho2 _
   have HR := Lib.hid (And.intro (h2.mono (B2 := B) (by have := HM.out; omega)) (show ∀ g, v2.ownBlock = some g → w.heap.size ≤ g from fun g hg => by have := (h2.block hg).1; omega))
   replace hX := Lib.hid (hX.out.off ho2 (fun e => by have := (HA.out.block e).1; omega))
   replace HB := Lib.hid (Off.toBelow HB.out ho2 (fun j hj e => by have := (HA.out.block e).1; omega) (Nat.le_refl _))
   clear h2 ho2 HA HY
   refine hK.out _ _ hX.out (fun _ => ?_)
   clear hK K
   refine wpAnyH_take (i := 8) (v := v2) rfl (by kernel_rfl) (by kernel_rfl) (by kernel_rfl) (fun _ _ _ h => h) (Or.inl ⟨by rfl, fun w' hSw => by clear hSw; go_simp⟩) hX.out ?_
   simp only [List.getElem_toArray, List.getElem_cons_zero, List.getElem_cons_succ, Act.put, List.setIfInBounds_toArray, List.set_cons_zero, List.set_cons_succ]
   refine wpAnyH_take (i := 9) (v := .bool true) rfl (by kernel_rfl) (by kernel_rfl) (by kernel_rfl) (fun _ _ _ h => h) (Or.inl ⟨by rfl, fun w' hSw => by clear hSw; go_simp⟩) hX.out ?_
   simp only [List.getElem_toArray, List.getElem_cons_zero, List.getElem_cons_succ, Act.put, List.setIfInBounds_toArray, List.set_cons_zero, List.set_cons_succ]
   refine wpAnyH_done (by kernel_rfl) ?_ _
   go_wp2_with fail
   go_ret2
   exact ⟨v2, rfl, HR.out.1, HB.out, .inr HR.out.2⟩
theorem jPush {w : World} {B : Nat} {v : Value} {L : List (Kp × Int)} (h : TrAt w B v L) (hB : B ≤ w.heap.size) (hl : L.length < 4000) (n : Nat) (k : Kp) (i : Int) : Calls Try.prog 9 #[v, .int .i64 n, kv k, .int .i64 i] w fun e w' => PushPost w B v n L k i e w' := by
 cases hc : chCan n L i with
 | true => exact jPushYes h hB hl n k i hc
 | false => exact jPushNo h hl n k i hc
structure ChainR (κ : Type) where
 At : World → Nat → (Nat → Prop) → Nat → List (κ × Int) → Prop
 keep : ∀ {w w' : World} {p : Nat} {S : Nat → Prop} {n : Nat} {L : List (κ × Int)}, At w p S n L → w.heap.size ≤ w'.heap.size → (∀ k, S k → w'.heap[k]? = w.heap[k]?) → At w' p S n L
 lt : ∀ {w : World} {p : Nat} {S : Nat → Prop} {n : Nat} {L : List (κ × Int)}, At w p S n L → ∀ k, S k → k < w.heap.size
def CLeft {κ : Type} (R : ChainR κ) (w : World) (p : Nat) (S : Nat → Prop) (n : Nat) (L : List (κ × Int)) (w' : World) : Prop := ∃ S' : Nat → Prop, R.At w' p S' n L ∧ (∀ k, S' k → S k ∨ w.heap.size ≤ k) ∧ Off S w w'
def CTold {κ : Type} (R : ChainR κ) (w : World) (p : Nat) (S : Nat → Prop) (n : Nat) (L : List (κ × Int)) (l : List Int) (v : Value) (w' : World) : Prop := ∃ S' : Nat → Prop, R.At w' p S' n L ∧ (∀ k, S' k → S k ∨ w.heap.size ≤ k) ∧ Off S w w' ∧ RdI w' v l ∧ ∀ g, v.ownBlock = some g → w.heap.size ≤ g ∧ g < w'.heap.size ∧ ¬ S' g
structure CIn {κ : Type} (P : κ → Prop) (R : ChainR κ) (w : World) (p : Nat) (S : Nat → Prop) (n : Nat) (L : List (κ × Int)) : Prop where
 at_ : R.At w p S n L
 n0 : 1 ≤ n
 n1 : n ≤ 4096
 ok : ChOk n L
 ks : ∀ x ∈ L, P x.1
structure ChainK (κ : Type) [DecidableEq κ] (fn fp fr fa : Nat) (ek : κ → Value) (P : κ → Prop) (R : ChainR κ) : Prop where
 new : ∀ (n : Nat) (w : World), 1 ≤ n → n ≤ 4096 → Calls Try.prog fn #[.int .i64 n] w fun e w' => ∃ (p : Nat) (S : Nat → Prop), e = .returned (.tuple #[.pointer (some ⟨p, 0, none⟩), .int .i64 0]) ∧ R.At w' p S n [] ∧ (∀ k, S k → w.heap.size ≤ k) ∧ Below w.heap.size w w'
 newNo : ∀ (a : Int) (w : World), i64r a → ¬ (1 ≤ a ∧ a ≤ 4096) → Calls Try.prog fn #[.int .i64 a] w fun e w' => e = .returned (.tuple #[.pointer none, .int .i64 5]) ∧ Below w.heap.size w w'
 push : ∀ (w : World) p S n L k i, CIn P R w p S n L → P k → i64r i → Calls Try.prog fp #[.pointer (some ⟨p, 0, none⟩), ek k, .int .i64 i] w fun e w' => e = .returned (.bool (chCan n L i)) ∧ CLeft R w p S n (chPush n L k i) w'
 remove : ∀ (w : World) p S n L i, CIn P R w p S n L → i64r i → Calls Try.prog fr #[.pointer (some ⟨p, 0, none⟩), .int .i64 i] w fun e w' => e = .returned (.bool (chHas L i)) ∧ CLeft R w p S n (chRem L i) w'
 all : ∀ (w : World) p S n L k, CIn P R w p S n L → P k → Calls Try.prog fa #[.pointer (some ⟨p, 0, none⟩), ek k] w fun e w' => ∃ v, e = .returned v ∧ CTold R w p S n L (chAll L k) v w'
def okk (k : Kp) : Prop := i64r k.1 ∧ i64r k.2
abbrev ChainKp := ChainK Kp 7 10 13 34 kv okk
structure ChainC (R : ChainR Kp) : Prop where
 K : ChainKp R
 key : ∀ (w : World) p S n L i, CIn okk R w p S n L → i64r i → Calls Try.prog 21 #[.pointer (some ⟨p, 0, none⟩), .int .i64 i] w fun e w' => e = .returned (.tuple #[kv ((chKey L i).getD (0, 0)), .bool (chHas L i)]) ∧ CLeft R w p S n L w'
 first : ∀ (w : World) p S n L k, CIn okk R w p S n L → okk k → Calls Try.prog 19 #[.pointer (some ⟨p, 0, none⟩), kv k] w fun e w' => e = .returned (.int .i64 (chFst (chAll L k))) ∧ CLeft R w p S n L w'
 next : ∀ (w : World) p S n L i, CIn okk R w p S n L → i64r i → Calls Try.prog 20 #[.pointer (some ⟨p, 0, none⟩), .int .i64 i] w fun e w' => e = .returned (.int .i64 (chNext L i)) ∧ CLeft R w p S n L w'
 take : ∀ (w : World) p S n L k, CIn okk R w p S n L → okk k → Calls Try.prog 16 #[.pointer (some ⟨p, 0, none⟩), kv k] w fun e w' => ∃ v, e = .returned v ∧ CTold R w p S n (chTake L k) (chAll L k) v w'
 len : ∀ (w : World) p S n L k, CIn okk R w p S n L → okk k → Calls Try.prog 22 #[.pointer (some ⟨p, 0, none⟩), kv k] w fun e w' => e = .returned (.int .i64 (chAll L k).length) ∧ CLeft R w p S n L w'
 total : ∀ (w : World) p S n L, CIn okk R w p S n L → Calls Try.prog 23 #[.pointer (some ⟨p, 0, none⟩)] w fun e w' => e = .returned (.int .i64 L.length) ∧ CLeft R w p S n L w'
 copy : ∀ (w : World) p S n L, CIn okk R w p S n L → Calls Try.prog 17 #[.pointer (some ⟨p, 0, none⟩)] w fun e w' => ∃ (p2 : Nat) (S2 S' : Nat → Prop), e = .returned (.pointer (some ⟨p2, 0, none⟩)) ∧ R.At w' p2 S2 n L ∧ (∀ k, S2 k → w.heap.size ≤ k ∧ ¬ S' k) ∧ R.At w' p S' n L ∧ (∀ k, S' k → S k ∨ w.heap.size ≤ k) ∧ Off S w w'
abbrev ChainS := ChainK ByteArray 36 37 39 38 (fun s => Value.string s) (fun s => s.size < 1000)
structure ChainN : Prop where
 key : ∀ (w : World) i, i64r i → Calls Try.prog 24 #[.pointer none, .int .i64 i] w fun e w' => e = .returned (.tuple #[.int .i64 0, .bool false]) ∧ Below w.heap.size w w'
 push : ∀ (w : World) k i, i64r k → i64r i → Calls Try.prog 25 #[.pointer none, .int .i64 k, .int .i64 i] w fun e w' => e = .returned (.bool false) ∧ Below w.heap.size w w'
 remove : ∀ (w : World) i, i64r i → Calls Try.prog 26 #[.pointer none, .int .i64 i] w fun e w' => e = .returned (.bool false) ∧ Below w.heap.size w w'
 first : ∀ (w : World) k, i64r k → Calls Try.prog 27 #[.pointer none, .int .i64 k] w fun e w' => e = .returned (.int .i64 (-1)) ∧ Below w.heap.size w w'
 next : ∀ (w : World) i, i64r i → Calls Try.prog 28 #[.pointer none, .int .i64 i] w fun e w' => e = .returned (.int .i64 (-1)) ∧ Below w.heap.size w w'
 all : ∀ (w : World) k, i64r k → Calls Try.prog 29 #[.pointer none, .int .i64 k] w fun e w' => ∃ y c, e = .returned (.slice y 0 c) ∧ Below w.heap.size w w'
 take : ∀ (w : World) k, i64r k → Calls Try.prog 30 #[.pointer none, .int .i64 k] w fun e w' => ∃ y c, e = .returned (.slice y 0 c) ∧ Below w.heap.size w w'
 len : ∀ (w : World) k, i64r k → Calls Try.prog 31 #[.pointer none, .int .i64 k] w fun e w' => e = .returned (.int .i64 0) ∧ Below w.heap.size w w'
 total : ∀ (w : World), Calls Try.prog 32 #[.pointer none] w fun e w' => e = .returned (.int .i64 0) ∧ Below w.heap.size w w'
 copy : ∀ (w : World), Calls Try.prog 33 #[.pointer none] w fun e w' => e = .returned (.pointer none) ∧ Below w.heap.size w w'
section
variable {κ : Type} {R : ChainR κ} {w0 w w' : World} {p : Nat} {S : Nat → Prop} {n : Nat} {L M : List (κ × Int)} {v : Value} {l : List Int}
theorem ChainR.below (R : ChainR κ) (h : R.At w p S n L) (hb : Below w.heap.size w w') : R.At w' p S n L := R.keep h hb.size fun k hk => hb.block k (R.lt h k hk)
theorem ChainR.off (R : ChainR κ) {T : Nat → Prop} (h : R.At w p S n L) (ho : Off T w w') (hT : ∀ k, S k → ¬ T k) : R.At w' p S n L := R.keep h ho.size fun k hk => ho.block k (R.lt h k hk) (hT k hk)
theorem CTold.left (h : CTold R w p S n L l v w') : CLeft R w p S n L w' := by
 obtain ⟨S', h1, h2, h3, _⟩ := h
 exact ⟨S', h1, h2, h3⟩
structure CS (R : ChainR κ) (w0 w : World) (p : Nat) (S : Nat → Prop) (n : Nat) (L : List (κ × Int)) : Prop where
 P : R.At w p S n L
 own : ∀ k, S k → w0.heap.size ≤ k
 lo : Below w0.heap.size w0 w
theorem CS.below (A : CS R w0 w p S n L) (hb : Below w.heap.size w w') : CS R w0 w' p S n L := ⟨R.below A.P hb, A.own, tr A.lo hb⟩
theorem CS.left (A : CS R w0 w p S n L) (H : CLeft R w p S n M w') : ∃ S' : Nat → Prop, CS R w0 w' p S' n M ∧ (∀ k, S' k → S k ∨ w.heap.size ≤ k) ∧ Off S w w' := by
 obtain ⟨S', h1, h2, h3⟩ := H
 refine ⟨S', ⟨h1, fun k hk => ?_, Off.toBelow A.lo h3 (fun j hj e => by have := A.own j e; omega) (Nat.le_refl _)⟩, h2, h3⟩
 rcases h2 k hk with h | h
 · exact A.own k h
 · exact Nat.le_trans A.lo.size h
theorem CS.told (A : CS R w0 w p S n L) (H : CTold R w p S n M l v w') : ∃ S' : Nat → Prop, CS R w0 w' p S' n M ∧ (∀ k, S' k → S k ∨ w.heap.size ≤ k) ∧ Off S w w' ∧ RdI w' v l ∧ ∀ g, v.ownBlock = some g → w.heap.size ≤ g ∧ g < w'.heap.size ∧ ¬ S' g := by
 obtain ⟨S', h1, h2, h3, h4, h5⟩ := H
 refine ⟨S', ⟨h1, fun k hk => ?_, Off.toBelow A.lo h3 (fun j hj e => by have := A.own j e; omega) (Nat.le_refl _)⟩, h2, h3, h4, h5⟩
 rcases h2 k hk with h | h
 · exact A.own k h
 · exact Nat.le_trans A.lo.size h
theorem CS.cin {P : κ → Prop} (A : CS R w0 w p S n L) (n0 : 1 ≤ n) (n1 : n ≤ 4096) (ok : ChOk n L) (ks : ∀ x ∈ L, P x.1) : CIn P R w p S n L := ⟨A.P, n0, n1, ok, ks⟩
end
theorem RdI.off {w w' : World} {v : Value} {l : List Int} {S : Nat → Prop} (h : RdI w v l) (ho : Off S w w') (hs : ∀ g, v.ownBlock = some g → ¬ S g) : RdI w' v l := by
 obtain ⟨y, cap, rfl, h1, h2, h⟩ := h
 refine ⟨y, cap, rfl, h1, h2, h.imp id ?_⟩
 rintro ⟨g, off, rfl, h3, h4⟩
 exact ⟨g, off, rfl, Nat.lt_of_lt_of_le h3 ho.size, fun k i hi => (ho.cell (p := ⟨g, off + k, none⟩) h3 (hs g rfl)).trans (h4 k i hi)⟩
end Go.Proofs.Ytopkmjiilnoeeaa.B
