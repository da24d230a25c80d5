/- Several texts in one: Layer 12's laws: the chapter's example; a nil port. The law PortNil: its arguments. -/
import Derived.Test.YtpojmmgokgamgaaGreatZVaz
import Derived.Test.YtpojmmgokgamgaaGreatZVO
import Derived.Laws.StructEq
set_option linter.unusedVariables false
set_option linter.unusedSimpArgs false
set_option maxRecDepth 100000
namespace Go.Proofs.YtpojmmgokgamgaaGreat.B
open Go.ChangeShapes Go.WideShapes Go.RowKit Go.Sort
def kp0 : Pt := pt0 (bx0 1) [3, 5]
def kp1 : Pt := kp0.ldp
def kp2 : Pt := kp1.ldp
def kp3 : Pt := kp2.ldp
theorem kp_g : ∀ g ∈ ([3, 5] : List Int), 0 <= g /\ g < 4294967296 := fun g h => by
 rcases List.mem_cons.1 h with rfl | h
 . decide
 . rcases List.mem_cons.1 h with rfl | h
   . decide
   . cases h
theorem kp_ok : kp0.ok 0 := pt0_ok _ _ (told0 1) (Nat.le_refl _) (by decide) kp_g
theorem kp_t1 : kp1.x.ti = 3 := by decide +kernel
theorem kp_t2 : kp2.x.ti = 8 := by decide +kernel
theorem kp_t3 : kp3.x.ti = 11 := by decide +kernel
theorem kp_s3 : kp3.sp = 11 := by decide +kernel
set_option maxHeartbeats 3200000 in
theorem ptKnown (w : World) : Calls Tryz.prog 9 #[] w fun e w' => e = .returned (.bool true) /\ Below w.heap.size w w' := by
 have HNW := Hd (bdNew 1 1 1 w (by decide) (by decide) (by decide) (by decide) (by decide) (by decide))
 go_enter Tryz.func9, Tryz.ntmps9
 go_wp2_with fail
 refine (HNW.out).mono ?_
 rintro e w1 ⟨B, rfl, h1, hb, h3, h7, h8, h9⟩
 have HH := Hd h1
 have HB := Hd hb
 have HNE := Hd h3
 clear h1 hb h3 h7 h8 h9 HNW
 go_wp2_with fail
 have hbx := trA (tr0 w1) (.cells #[.int .u32 3, .int .u32 5] tU (0, 0))
 have hga : GAt 0 (w1.alloc (.cells #[.int .u32 3, .int .u32 5] tU (0, 0))) (.slice (some ⟨w1.heap.size, 0, none⟩) 2 2) [3, 5] :=
  ⟨_, _, rfl, Nat.le_refl _, by unfold maxLen; decide, .inr ⟨_, 0, rfl, lt_of_block (blk_new w1 _), .inr (by rw [kd_of (blk_new w1 _)]; decide), fun i g hi => by
   rw [blk_cell (blk_new w1 _)]
   match i, hi with
   | 0, hi => simp at hi; subst hi; rfl
   | 1, hi => simp at hi; subst hi; rfl
   | i + 2, hi => simp at hi⟩⟩
 refine (pNew B (bx0 1) 0 _ [3, 5] _ (HH.out.below hbx) (told0 1) hga (by decide)).mono ?_
 rintro e w2 ⟨q, gv, rfl, hq, hp, hb⟩
 have HQ := Hd (show w.heap.size <= q from Nat.le_trans (tr HB.out hbx).size hq)
 have HB := Hd (tr HB.out (tr hbx hb))
 have HH := Hd (show PtAt w2 q B kp0 gv from hp)
 have HOK := Hd kp_ok
 clear hbx hga hq hp hb
 go_wp2_with fail
 refine (pLoad q B kp0 gv 0 268632064 w2 HH.out HOK.out (by decide) (by decide) (by decide)).mono ?_
 rintro e w3 ⟨rfl, hL⟩
 have HS := Hd HH.out.bd.still
 obtain ⟨C1, LC⟩ := hL.lp HH.out HNE.out HQ.out HB.out.size
 have HOK := Hd (show kp1.ok 1 from Pt.ldp_ok HOK.out HS.out (by decide))
 have HH := Hd (show PtAt w3 q C1 kp1 gv from LC.h)
 have HE := Hd (LC.e)
 have HB := Hd (HB.out.trans LC.lo)
 have HNE := Hd LC.nw
 clear hL LC HS
 go_wp2_with fail
 have HT := Hd (bdTime C1 kp1.x _ HH.out.bd)
 rw [HE.out, kp_t1] at HT
 refine (HT.out).mono ?_
 rintro e w4 ⟨rfl, hb⟩
 have HH := Hd (HH.out.below hb)
 have HB := Hd (tr HB.out hb)
 clear hb HT
 go_wp2_with fail
 refine (pLoad q C1 kp1 gv 1 268632064 w4 HH.out HOK.out (by decide) (by decide) (by decide)).mono ?_
 rintro e w5 ⟨rfl, hL⟩
 have HS := Hd HH.out.bd.still
 obtain ⟨C2, LC⟩ := hL.lp HH.out HNE.out HQ.out HB.out.size
 have HOK := Hd (show kp2.ok 2 from Pt.ldp_ok HOK.out HS.out (by decide))
 have HH := Hd (show PtAt w5 q C2 kp2 gv from LC.h)
 have HE := Hd (LC.e.trans HE.out)
 have HB := Hd (HB.out.trans LC.lo)
 have HNE := Hd LC.nw
 clear hL LC HS
 go_wp2_with fail
 have HT := Hd (bdTime C2 kp2.x _ HH.out.bd)
 rw [HE.out, kp_t2] at HT
 refine (HT.out).mono ?_
 rintro e w6 ⟨rfl, hb⟩
 have HH := Hd (HH.out.below hb)
 have HB := Hd (tr HB.out hb)
 clear hb HT
 go_wp2_with fail
 refine (pLoad q C2 kp2 gv 2 268632064 w6 HH.out HOK.out (by decide) (by decide) (by decide)).mono ?_
 rintro e w7 ⟨rfl, hL⟩
 have HS := Hd HH.out.bd.still
 obtain ⟨C3, LC⟩ := hL.lp HH.out HNE.out HQ.out HB.out.size
 have HOK := Hd (show kp3.ok 3 from Pt.ldp_ok HOK.out HS.out (by decide))
 have HH := Hd (show PtAt w7 q C3 kp3 gv from LC.h)
 have HE := Hd (LC.e.trans HE.out)
 have HB := Hd (HB.out.trans LC.lo)
 have HNE := Hd LC.nw
 clear hL LC HS
 go_wp2_with fail
 have HT := Hd (bdTime C3 kp3.x _ HH.out.bd)
 rw [HE.out, kp_t3] at HT
 refine (HT.out).mono ?_
 rintro e w8 ⟨rfl, hb⟩
 have HH := Hd (HH.out.below hb)
 have HB := Hd (tr HB.out hb)
 clear hb HT
 go_wp2_with fail
 have HT := Hd (pSpent q C3 kp3 gv w8 HH.out)
 rw [kp_s3] at HT
 refine (HT.out).mono ?_
 rintro e w9 ⟨rfl, hb⟩
 have HB := Hd (tr HB.out hb)
 clear hb HT
 go_wp2_with fail
 go_ret
 exact ⟨rfl, HB.out⟩
set_option maxHeartbeats 3200000 in
theorem portNil (a v : Int) (w : World) :
 Calls Tryz.prog 5 #[.int .u32 a, .int .u32 v] w fun e w' => e = .returned (.bool true) /\ Below w.heap.size w w' := by
 have HB := Hd (tr0 w)
 go_enter Tryz.func5, Tryz.ntmps5
 go_wp2_with fail
 refine (pLoadNil a _).mono ?_
 rintro e w1 ⟨rfl, hb⟩
 have HB := Hd (tr HB.out hb)
 clear hb
 go_wp2_with fail
 refine (pNewNil _ _).mono ?_
 rintro e w2 ⟨rfl, hb⟩
 have HB := Hd (tr HB.out hb)
 clear hb
 go_wp2_with fail
 refine (ptKnown _).mono ?_
 rintro e w3 ⟨rfl, hb⟩
 have HB := Hd (tr HB.out hb)
 clear hb
 go_wp2_with fail
 refine (pStoreNil a v _).mono ?_
 rintro e w4 ⟨rfl, hb⟩
 have HB := Hd (tr HB.out hb)
 clear hb
 go_wp2_with fail
 refine (pDownNil _).mono ?_
 rintro e w5 ⟨rfl, hb⟩
 have HB := Hd (tr HB.out hb)
 clear hb
 go_wp2_with fail
 refine (pBootNil _).mono ?_
 rintro e w6 ⟨rfl, hb⟩
 have HB := Hd (tr HB.out hb)
 clear hb
 go_wp2_with fail
 refine (pSpentNil _).mono ?_
 rintro e w7 ⟨rfl, hb⟩
 have HB := Hd (tr HB.out hb)
 clear hb
 go_wp2_with fail
 refine (pMadeNil _).mono ?_
 rintro e w8 ⟨rfl, hb⟩
 have HB := Hd (tr HB.out hb)
 clear hb
 go_wp2_with fail
 have hbx := trA (tr0 w8) (.cells #[.int .u32 v] tU (0, 0))
 have HB := Hd (tr HB.out hbx)
 clear hbx
 refine (pGapsNil _ _).mono ?_
 rintro e w9 ⟨rfl, hb⟩
 have HB := Hd (tr HB.out hb)
 clear hb
 go_wp2_with fail
 refine (pBoardNil _).mono ?_
 rintro e w10 ⟨rfl, hb⟩
 have HB := Hd (tr HB.out hb)
 clear hb
 go_wp2_with fail
 refine (pCopyNil _).mono ?_
 rintro e w11 ⟨rfl, hb⟩
 have HB := Hd (tr HB.out hb)
 clear hb
 go_wp2_with fail
 go_ret
 exact ⟨rfl, HB.out⟩
theorem wPortNil (v0 v1 : Value) (w : World) (h0 : FitsV w (.int .u32) v0) (h1 : FitsV w (.int .u32) v1) :
 Calls Tryz.prog 5 #[v0, v1] w fun e w' => e = .returned (.bool true) /\ Below w.heap.size w w' := by
 obtain ⟨a, rfl, _, _⟩ := fits_u32 h0
 obtain ⟨v, rfl, _, _⟩ := fits_u32 h1
 exact portNil a v w
end Go.Proofs.YtpojmmgokgamgaaGreat.B
