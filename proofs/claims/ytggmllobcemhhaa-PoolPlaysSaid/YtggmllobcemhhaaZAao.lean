/- Several texts in one: Package pool: Copy. Package pool keeps its contracts; the laws of layer 16. -/
import Derived.Test.YtggmllobcemhhaaZAak
import Derived.Test.YtggmllobcemhhaaZAan
import Derived.Shelf.SlMaps.Clone
import Derived.Lib.SliceRun
namespace Go.Proofs.Ytggmllobcemhhaa.B
set_option linter.unusedVariables false
set_option linter.unusedSimpArgs false
set_option maxRecDepth 100000
open Go.ChangeShapes Go.WideShapes Go.RowKit Go.Sort Go.MapKept
theorem mClone (m : Nat) (M : List (Int × Value)) (w : World) (hm : mapP w sk ok64 m M) :
 Calls Try.prog 35 #[.map (some m)] w
  fun e w' => e = .returned (.map (some w.heap.size)) ∧ mapP w' sk ok64 w.heap.size M ∧ Below w.heap.size w w' := by
 obtain ⟨es, c, hb, h1, h2, h3⟩ := hm
 have hq := fun w => run_eql_map_nil_sl (P := Try.prog) w 66 _ _ (some m) Try.underlying66
 have HK := Lib.hid (show mapP (w.alloc (.map es c)) sk ok64 w.heap.size M from ⟨es, c, blk_new w _, h1, h2, h3⟩)
 clear h1 h2 h3
 go_enter Try.func35, Try.ntmps35
 go_wp2
 rw [run_callFunc_extern Try.func40 (by kernel_rfl) (by kernel_rfl) (by kernel_rfl) (e := Extern.MapsClone.clone) (by kernel_rfl), run_maps_clone_sl w 66 hb]
 simp only [Result.andThen]
 rw [Oper.upon_value]
 go_wp2
 rw [run_typeAssert_map_sl _ 66 20 _ _ _ Try.underlying66]
 simp only [Result.andThen]
 rw [Oper.upon_value]
 go_wp2
 go_ret
 exact ⟨rfl, HK.out, trA (tr0 w) _⟩
theorem emptyU (W : World) : (W.alloc (.cells #[] tUv (0, 0))).ownsRow W.heap.size tUv 1 (.slice (some ⟨W.heap.size, 0, none⟩) 0 0) 0 [] :=
 World.ownsRow_made W #[] 0 (Nat.le_refl _) (by unfold maxLen; omega) rfl
def rws (n : Nat) (F : Nat → Int) : List Value := (List.range n).map fun i => .int .u64 (F i)
theorem sClone {g n c : Nat} {F : Nat → Int} {w : World} (h : RwU w g n c F) (n0 : 1 ≤ n) (n1 : n ≤ 4096) :
 Calls Try.prog 36 #[.slice (some ⟨g, 0, none⟩) n c] w
  fun e w' => ∃ g2 c2, e = .returned (.slice (some ⟨g2, 0, none⟩) n c2) ∧ w.heap.size ≤ g2 ∧ RwU w' g2 n c2 F ∧ Below w.heap.size w w' := by
 obtain ⟨i0, hi, hz0, hz1, hz2⟩ := info_parts infoUv
 have HI := Lib.hid hi
 have HZ := Lib.hid hz0
 have HZ1 := Lib.hid hz1
 have HZ2 := Lib.hid hz2
 have HE := Lib.hid (emptyU w)
 have HB := Lib.hid (trA (tr0 w) (.cells #[] tUv (0, 0)))
 have HC := Lib.hid (show ∀ (j : Nat) (u : Value), (rws n F)[j]? = some u → (w.alloc (.cells #[] tUv (0, 0))).cell? ((⟨g, 0, none⟩ : Addr).add j) = some u from fun j u hu => by
  unfold rws at hu
  have hj : j < n := by have := (List.getElem?_eq_some_iff.1 hu).1; simpa using this
  rw [List.getElem?_map, List.getElem?_range hj] at hu
  have hg := h.kept (blk_old w (.cells #[] tUv (0, 0)) h.lt)
  rw [Addr.add_lit, Nat.zero_add, hg.cell hj]
  simpa using hu)
 have HL := Lib.hid (show (rws n F).length = n * 1 from by unfold rws; simp)
 have H1 := Lib.hid (show ∀ u ∈ rws n F, u.oneCell' = true from fun u hu => by
  unfold rws at hu
  obtain ⟨i, _, rfl⟩ := List.mem_map.1 hu
  rfl)
 have HS := Lib.hid (show w.heap.size ≤ (w.alloc (.cells #[] tUv (0, 0))).heap.size from HB.out.size)
 have hq := fun w => Lib.run_eql_slice_nil (P := Try.prog) w 31 _ (some ⟨g, 0, none⟩) n c 0 0 Try.underlying31
 clear hi hz0 hz1 hz2 h
 go_enter Try.func36, Try.ntmps36
 go_wp2_with (refine wpList_append_own _ rfl (.tmp 5) (.tmp 6) _ rfl w.heap.size 30 i0 _ 1 8 Try.underlying31 HI.out HZ.out HZ1.out HZ2.out rfl (by decide) _ 0 [] rfl HE.out ⟨g, 0, none⟩ n c (rws n F) rfl HL.out HC.out H1.out (by unfold maxLen; omega) (by omega) HS.out ?_; intro v' w3 h3 h4 _; have H3 := Lib.hid h3; have H4 := Lib.hid (Off.toBelow HB.out (Off.ofGrown (S := fun k => k = w.heap.size) h4 (fun k e => by cases e; rfl)) (fun j hj e => by omega) (Nat.le_refl _)); clear h3 h4)
 obtain ⟨hl, ho⟩ := H3.out
 rcases ho with ⟨h1, h2⟩ | ⟨f, cap, cur, h1, hB, hf, hkc, hcm, hcs, htk⟩
 · omega
 · rw [Nat.zero_add] at h1 hkc htk
   clear H3
   subst h1
   go_ret
   refine ⟨f, cap, rfl, hB, ⟨cur, hf, hkc, hcm, by omega, fun i hi => ?_⟩, H4.out⟩
   have h3 : (rws n F)[i]? = some (.int .u64 (F i)) := by unfold rws; rw [List.getElem?_map, List.getElem?_range hi]; rfl
   rw [List.nil_append] at htk
   rw [← htk, List.getElem?_take, if_pos (by omega)] at h3
   simpa using h3
theorem PlAt.copied {w W : World} {p m g gc f fc n m2 g2 gc2 f2 fc2 : Nat} {t : Nat → Po} {F : Nat → Int} (A : PlAt w p m g gc f fc n t F) (hm : mapP W sk ok64 m2 (entM t n)) (hg : RwU W g2 n gc2 (fun i => (t i).g)) (hf : RwU W f2 (nwo n) fc2 F)
 (m0 : w.heap.size ≤ m2) (g0 : w.heap.size ≤ g2) (f0 : w.heap.size ≤ f2) (mg : m2 ≠ g2) (mf : m2 ≠ f2) (gf : g2 ≠ f2) (hb : Below w.heap.size w W) :
 PlAt (W.alloc (.cells #[.map (some m2), .slice (some ⟨g2, 0, none⟩) n gc2, .slice (some ⟨f2, 0, none⟩) (nwo n) fc2] tPl (0, 0))) W.heap.size m2 g2 gc2 f2 fc2 n t F ∧ (∀ k, own4 W.heap.size m2 g2 f2 k → w.heap.size ≤ k) ∧ Below w.heap.size w (W.alloc (.cells #[.map (some m2), .slice (some ⟨g2, 0, none⟩) n gc2, .slice (some ⟨f2, 0, none⟩) (nwo n) fc2] tPl (0, 0))) := by
 refine ⟨⟨⟨blk_new W _, hm.kept (blk_old W _ hm.lt), hg.kept (blk_old W _ hg.lt), hf.kept (blk_old W _ hf.lt), ?_, ?_, ?_, mg, mf, gf⟩, A.fw⟩, ?_, trA hb _⟩
 · have := hm.lt; omega
 · have := hg.lt; omega
 · have := hf.lt; omega
 · rintro k (rfl | rfl | rfl | rfl)
   · exact hb.size
   · exact m0
   · exact g0
   · exact f0
set_option maxHeartbeats 3200000 in
theorem pCopy16 {w : World} {p m g gc f fc n : Nat} {t : Nat → Po} {F : Nat → Int} (V : VAt w p m g gc f fc n t F) : Calls Try.prog 22 #[.pointer (some ⟨p, 0, none⟩)] w
 fun e w' => ∃ p2 m2 g2 gc2 f2 fc2, e = .returned (.pointer (some ⟨p2, 0, none⟩)) ∧ PlAt w' p2 m2 g2 gc2 f2 fc2 n t F ∧ (∀ k, own4 p2 m2 g2 f2 k → w.heap.size ≤ k) ∧ Below w.heap.size w w' := by
 have HV := Lib.hid V
 have n0 := V.n0
 have n1 := V.n1
 have hw0 : 1 ≤ nwo n := by unfold nwo; omega
 have hw1 : nwo n ≤ 4096 := by unfold nwo; omega
 have HB := Lib.hid (trD (tr0 w))
 have hX := Lib.hid (show (fun w' : World => w'.heap[p]? = some (.cells #[.map (some m), .slice (some ⟨g, 0, none⟩) n gc, .slice (some ⟨f, 0, none⟩) (nwo n) fc] tPl (0, 0))) w.drew from V.A.B.cell)
 clear V
 go_enter Try.func22, Try.ntmps22
 go_upto_region 3 with (fail)
 refine wp_region_held_drew (S := fun w' => w'.heap[p]? = some (.cells #[.map (some m), .slice (some ⟨g, 0, none⟩) n gc, .slice (some ⟨f, 0, none⟩) (nwo n) fc] tPl (0, 0))) (by kernel_rfl) hX.out (fun _ => ?_)
 refine wpAnyH_take (i := 0) (v := .pointer (some ⟨p, 0, none⟩)) rfl (by kernel_rfl) (by kernel_rfl) (by kernel_rfl) (fun _ _ _ h => h) (Or.inl ⟨by rfl, fun w' hSw => by clear hSw; go_simp⟩) hX.out ?_
 simp only [List.getElem_toArray, List.getElem_cons_zero, List.getElem_cons_succ, Act.put, List.setIfInBounds_toArray, List.set_cons_zero, List.set_cons_succ]
 refine wpAnyH_take (i := 1) (v := .pointer (some ⟨p, 0, none⟩)) rfl (by kernel_rfl) (by kernel_rfl) (by kernel_rfl) (fun _ _ _ h => h) (Or.inl ⟨by rfl, fun w' hSw => by clear hSw; go_simp⟩) hX.out ?_
 simp only [List.getElem_toArray, List.getElem_cons_zero, List.getElem_cons_succ, Act.put, List.setIfInBounds_toArray, List.set_cons_zero, List.set_cons_succ]
 refine wpAnyH_take (i := 2) (v := .pointer (some ⟨p, 0, none⟩)) rfl (by kernel_rfl) (by kernel_rfl) (by kernel_rfl) (fun _ _ _ h => h) (Or.inl ⟨by rfl, fun w' hSw => by clear hSw; go_simp⟩) hX.out ?_
 simp only [List.getElem_toArray, List.getElem_cons_zero, List.getElem_cons_succ, Act.put, List.setIfInBounds_toArray, List.set_cons_zero, List.set_cons_succ]
 refine wpAnyH_take (i := 3) (v := .map (some m)) rfl (by kernel_rfl) (by kernel_rfl) (by kernel_rfl) (fun _ _ _ h => h) (Or.inl ⟨by rfl, fun w' hSw => by have c0 := blk_cell hSw 0; simp only [List.getElem?_toArray, List.getElem?_cons_zero, List.getElem?_cons_succ] at c0; clear hSw; go_simp⟩) hX.out ?_
 simp only [List.getElem_toArray, List.getElem_cons_zero, List.getElem_cons_succ, Act.put, List.setIfInBounds_toArray, List.set_cons_zero, List.set_cons_succ]
 refine wpAnyH_take (i := 5) (v := .pointer (some ⟨p, 0, none⟩)) rfl (by kernel_rfl) (by kernel_rfl) (by kernel_rfl) (fun _ _ _ h => h) (Or.inl ⟨by rfl, fun w' hSw => by clear hSw; go_simp⟩) hX.out ?_
 simp only [List.getElem_toArray, List.getElem_cons_zero, List.getElem_cons_succ, Act.put, List.setIfInBounds_toArray, List.set_cons_zero, List.set_cons_succ]
 refine wpAnyH_take (i := 6) (v := .pointer (some ⟨p, 0, none⟩)) rfl (by kernel_rfl) (by kernel_rfl) (by kernel_rfl) (fun _ _ _ h => h) (Or.inl ⟨by rfl, fun w' hSw => by clear hSw; go_simp⟩) hX.out ?_
 simp only [List.getElem_toArray, List.getElem_cons_zero, List.getElem_cons_succ, Act.put, List.setIfInBounds_toArray, List.set_cons_zero, List.set_cons_succ]
 refine wpAnyH_take (i := 7) (v := .pointer (some ⟨p, 1, none⟩)) rfl (by kernel_rfl) (by kernel_rfl) (by kernel_rfl) (fun _ _ _ h => h) (Or.inl ⟨by rfl, fun w' hSw => by clear hSw; go_simp⟩) hX.out ?_
 simp only [List.getElem_toArray, List.getElem_cons_zero, List.getElem_cons_succ, Act.put, List.setIfInBounds_toArray, List.set_cons_zero, List.set_cons_succ]
 refine wpAnyH_take (i := 8) (v := .slice (some ⟨g, 0, none⟩) n gc) rfl (by kernel_rfl) (by kernel_rfl) (by kernel_rfl) (fun _ _ _ h => h) (Or.inl ⟨by rfl, fun w' hSw => by have c1 := blk_cell hSw 1; simp only [List.getElem?_toArray, List.getElem?_cons_zero, List.getElem?_cons_succ] at c1; clear hSw; go_simp⟩) hX.out ?_
 simp only [List.getElem_toArray, List.getElem_cons_zero, List.getElem_cons_succ, Act.put, List.setIfInBounds_toArray, List.set_cons_zero, List.set_cons_succ]
 refine wpAnyH_take (i := 10) (v := .pointer (some ⟨p, 0, none⟩)) rfl (by kernel_rfl) (by kernel_rfl) (by kernel_rfl) (fun _ _ _ h => h) (Or.inl ⟨by rfl, fun w' hSw => by clear hSw; go_simp⟩) hX.out ?_
 simp only [List.getElem_toArray, List.getElem_cons_zero, List.getElem_cons_succ, Act.put, List.setIfInBounds_toArray, List.set_cons_zero, List.set_cons_succ]
 refine wpAnyH_take (i := 11) (v := .pointer (some ⟨p, 0, none⟩)) rfl (by kernel_rfl) (by kernel_rfl) (by kernel_rfl) (fun _ _ _ h => h) (Or.inl ⟨by rfl, fun w' hSw => by clear hSw; go_simp⟩) hX.out ?_
 simp only [List.getElem_toArray, List.getElem_cons_zero, List.getElem_cons_succ, Act.put, List.setIfInBounds_toArray, List.set_cons_zero, List.set_cons_succ]
 refine wpAnyH_take (i := 12) (v := .pointer (some ⟨p, 2, none⟩)) rfl (by kernel_rfl) (by kernel_rfl) (by kernel_rfl) (fun _ _ _ h => h) (Or.inl ⟨by rfl, fun w' hSw => by clear hSw; go_simp⟩) hX.out ?_
 simp only [List.getElem_toArray, List.getElem_cons_zero, List.getElem_cons_succ, Act.put, List.setIfInBounds_toArray, List.set_cons_zero, List.set_cons_succ]
 refine wpAnyH_take (i := 13) (v := .slice (some ⟨f, 0, none⟩) (nwo n) fc) rfl (by kernel_rfl) (by kernel_rfl) (by kernel_rfl) (fun _ _ _ h => h) (Or.inl ⟨by rfl, fun w' hSw => by have c2 := blk_cell hSw 2; simp only [List.getElem?_toArray, List.getElem?_cons_zero, List.getElem?_cons_succ] at c2; clear hSw; go_simp⟩) hX.out ?_
 simp only [List.getElem_toArray, List.getElem_cons_zero, List.getElem_cons_succ, Act.put, List.setIfInBounds_toArray, List.set_cons_zero, List.set_cons_succ]
 refine wpAnyH_ready (rs := [4]) (by kernel_rfl) (by simp) ?_
 refine AllReadyH.cons rfl (fun K hK => ?_) AllReadyH.nil
 go_simp
 go_wp2_with (go_at_call 35; refine (mClone m (entM t n) _ (HV.out.below HB.out).A.B.map).mono ?_; rintro e w1 ⟨rfl, hr, hb⟩; have hM := Lib.hid hr; have hM0 := Lib.hid HB.out.size; have hX := Lib.hid (blk_below hb hX.out (lt_of_block hX.out)); have HB := Lib.hid (tr HB.out hb); clear hb hr)
 refine hK.out _ _ hX.out (fun _ => ?_)
 clear hK K
 refine wpAnyH_ready (rs := [9]) (by kernel_rfl) (by simp) ?_
 refine AllReadyH.cons rfl (fun K hK => ?_) AllReadyH.nil
 go_simp
 go_wp2_with (go_at_call 36; refine (sClone (HV.out.below HB.out).A.B.gens n0 n1).mono ?_; rintro e w2 ⟨g2, gc2, rfl, hge, hr, hb⟩; have hG := Lib.hid hr; have hG0 := Lib.hid (Nat.le_trans HB.out.size hge); have nMG := Lib.hid (Nat.ne_of_lt (Nat.lt_of_lt_of_le hM.out.lt hge)); have hM := Lib.hid (hM.out.below hb hM.out.lt); have hX := Lib.hid (blk_below hb hX.out (lt_of_block hX.out)); have HB := Lib.hid (tr HB.out hb); clear hb hr hge)
 refine hK.out _ _ hX.out (fun _ => ?_)
 clear hK K
 refine wpAnyH_ready (rs := [14]) (by kernel_rfl) (by simp) ?_
 refine AllReadyH.cons rfl (fun K hK => ?_) AllReadyH.nil
 go_simp
 go_wp2_with (go_at_call 36; refine (sClone (HV.out.below HB.out).A.B.free hw0 hw1).mono ?_; rintro e w3 ⟨f2, fc2, rfl, hge, hr, hb⟩; have hF := Lib.hid hr; have hF0 := Lib.hid (Nat.le_trans HB.out.size hge); have nMF := Lib.hid (Nat.ne_of_lt (Nat.lt_of_lt_of_le hM.out.lt hge)); have nGF := Lib.hid (Nat.ne_of_lt (Nat.lt_of_lt_of_le hG.out.lt hge)); have hM := Lib.hid (hM.out.below hb hM.out.lt); have hG := Lib.hid (hG.out.kept (hb.block _ hG.out.lt)); have hX := Lib.hid (blk_below hb hX.out (lt_of_block hX.out)); have HB := Lib.hid (tr HB.out hb); clear hb hr hge)
 refine hK.out _ _ hX.out (fun _ => ?_)
 clear hK K
 refine wpAnyH_take (i := 15) (v := .agg #[.map (some w.heap.size), .slice (some ⟨g2, 0, none⟩) n gc2, .slice (some ⟨f2, 0, none⟩) (nwo n) fc2]) rfl (by kernel_rfl) (by kernel_rfl) (by kernel_rfl) (fun _ _ _ h => h) (Or.inl ⟨by rfl, fun w' hSw => by clear hSw; go_simp⟩) hX.out ?_
 simp only [List.getElem_toArray, List.getElem_cons_zero, List.getElem_cons_succ, Act.put, List.setIfInBounds_toArray, List.set_cons_zero, List.set_cons_succ]
 refine wpAnyH_ready (rs := [16]) (by kernel_rfl) (by simp) ?_
 refine AllReadyH.cons rfl (fun K hK => ?_) AllReadyH.nil
 go_simp
 have hC := Lib.hid (HV.out.A.copied hM.out hG.out hF.out hM0.out hG0.out hF0.out nMG.out nMF.out nGF.out HB.out)
 have hX := Lib.hid (blk_below (trA (tr0 w3) (.cells #[.map (some w.heap.size), .slice (some ⟨g2, 0, none⟩) n gc2, .slice (some ⟨f2, 0, none⟩) (nwo n) fc2] tPl (0, 0))) hX.out (lt_of_block hX.out))
 refine hK.out _ _ hX.out (fun _ => ?_)
 clear hK K
 refine wpAnyH_take (i := 17) (v := .pointer (some ⟨w3.heap.size, 0, none⟩)) rfl (by kernel_rfl) (by kernel_rfl) (by kernel_rfl) (fun _ _ _ h => h) (Or.inl ⟨by rfl, fun w' hSw => by clear hSw; go_simp⟩) hX.out ?_
 simp only [List.getElem_toArray, List.getElem_cons_zero, List.getElem_cons_succ, Act.put, List.setIfInBounds_toArray, List.set_cons_zero, List.set_cons_succ]
 refine wpAnyH_done (by kernel_rfl) ?_ _
 go_wp2_with fail
 go_ret
 exact ⟨_, _, g2, gc2, f2, fc2, rfl, hC.out.1, hC.out.2.1, hC.out.2.2⟩
theorem calls_eq {f : Nat} {args : Array Value} {w : World} {E : Ending} (h : Calls Try.prog f args w fun e w' => e = E ∧ w = w') {Q : Ending → World → Prop} (hq : Q E w) : Calls Try.prog f args w Q := h.mono fun _ _ g => by obtain ⟨rfl, rfl⟩ := g; exact hq
theorem poolC : PoolC poolR where
 new := fun n w n0 n1 => (pNew n w n0 n1).mono fun _ _ g => by
  obtain ⟨p, m, g, f, fc, F, rfl, hA, ho, hb⟩ := g
  exact ⟨p, _, rfl, hA.at, ho, hb⟩
 newNo := fun a w ha h => pNewNo a w ha h
 put := fun w p S n t i d q o V hd hq ho hi ht hl => by
  obtain ⟨m, g, gc, f, fc, F, U, rfl⟩ := V.at
  refine (pPut U d q o hd hq ho hi ht hl).mono fun _ _ k => ?_
  obtain ⟨rfl, ⟨F2, h⟩, ho⟩ := k
  exact ⟨rfl, h.left ho⟩
 putNo := fun w p S n t d q o V hd hq ho hl => by
  obtain ⟨m, g, gc, f, fc, F, U, rfl⟩ := V.at
  exact (pPutNo U d q o hl).mono fun _ _ k => ⟨k.1, U.A.asked k.2⟩
 get := fun w p S n t x V hx => by
  obtain ⟨m, g, gc, f, fc, F, U, rfl⟩ := V.at
  exact (pGet U x hx).mono fun _ _ k => ⟨k.1, U.A.asked k.2⟩
 set := fun w p S n t x d q o V hx hd hq ho => by
  obtain ⟨m, g, gc, f, fc, F, U, rfl⟩ := V.at
  exact (pSet U x d q o hx).mono fun _ _ k => ⟨k.1, k.2.1.left k.2.2⟩
 drop := fun w p S n t x V hx => by
  obtain ⟨m, g, gc, f, fc, F, U, rfl⟩ := V.at
  refine (pDrop U x hx).mono fun _ _ k => ?_
  obtain ⟨rfl, ⟨F2, h⟩, ho⟩ := k
  exact ⟨rfl, h.left ho⟩
 clear := fun w p S n t V => by
  have ok := V.ok
  obtain ⟨m, g, gc, f, fc, F, U, rfl⟩ := V.at
  refine (pClear U ok).mono fun _ _ k => ?_
  obtain ⟨rfl, ⟨F2, h⟩, ho⟩ := k
  exact ⟨rfl, h.left ho⟩
 place := fun w p S n t x V hx => by
  obtain ⟨m, g, gc, f, fc, F, U, rfl⟩ := V.at
  exact (pPlace U x hx).mono fun _ _ k => ⟨k.1, U.A.asked k.2⟩
 handle := fun w p S n t a V ha => by
  obtain ⟨m, g, gc, f, fc, F, U, rfl⟩ := V.at
  exact (pHandle U a ha).mono fun _ _ k => ⟨k.1, U.A.asked k.2⟩
 handles := fun w p S n t V => by
  obtain ⟨m, g, gc, f, fc, F, U, rfl⟩ := V.at
  refine (pHandles U).mono fun _ _ k => ?_
  obtain ⟨v, rfl, hu, hb⟩ := k
  exact ⟨v, rfl, hu.rd, U.A.asked hb⟩
 live := fun w p S n t V => by
  obtain ⟨m, g, gc, f, fc, F, U, rfl⟩ := V.at
  exact calls_eq (pLive U) ⟨rfl, U.A.asked (tr0 w)⟩
 room := fun w p S n t V => by
  obtain ⟨m, g, gc, f, fc, F, U, rfl⟩ := V.at
  exact calls_eq (pRoom U) ⟨rfl, U.A.asked (tr0 w)⟩
 copy := fun w p S n t V => by
  obtain ⟨m, g, gc, f, fc, F, U, rfl⟩ := V.at
  refine (pCopy16 U).mono fun _ _ k => ?_
  obtain ⟨p2, m2, g2, gc2, f2, fc2, rfl, h, ho, hb⟩ := k
  exact ⟨p2, _, own4 p m g f, rfl, h.at, fun k hk => ⟨ho k hk, fun hk2 => by have := ho k hk; have := U.A.B.lt k hk2; omega⟩, (U.A.below hb).at, fun k hk => .inl hk, Off.ofBelow hb⟩
 split := fun x w hx => poolSplit x w hx
 nPut := fun w d q o _ _ _ => nPut d q o w
 nGet := fun w x hx => nGet x w hx
 nSet := fun w x d q o hx _ _ _ => nSet x d q o w hx
 nDrop := fun w x hx => nDrop x w hx
 nClear := fun w => nClear w
 nPlace := fun w x hx => nPlace x w hx
 nHandle := fun w a _ => nHandle a w
 nHandles := fun w => (nHandles w).mono fun _ _ k => ⟨_, _, k.1, k.2⟩
 nLive := fun w => nLive w
 nRoom := fun w => nRoom w
 nCopy := fun w => nCopy w
theorem wPoolPlays (v0 v1 v2 : Value) (w : World) (h0 : FitsV w (.int .i64) v0) (h1 : FitsV w (.slice shAc) v1) (h2 : FitsV w (.int .i64) v2) :
 Calls Try.prog 3 #[v0, v1, v2] w fun e w' => e = .returned (.bool true) ∧ Below w.heap.size w w' := wPoolPlaysH poolC v0 v1 v2 w h0 h1 h2
theorem wPoolOnce (v0 v1 : Value) (w : World) (h0 : FitsV w (.int .i64) v0) (h1 : FitsV w (.slice (.int .i64)) v1) :
 Calls Try.prog 4 #[v0, v1] w fun e w' => e = .returned (.bool true) ∧ Below w.heap.size w w' := wPoolOnceH poolC v0 v1 w h0 h1
theorem wPoolFull (v0 : Value) (w : World) (h0 : FitsV w (.int .i64) v0) :
 Calls Try.prog 5 #[v0] w fun e w' => e = .returned (.bool true) ∧ Below w.heap.size w w' := wPoolFullH poolC v0 w h0
theorem wPoolNil (v0 v1 : Value) (w : World) (h0 : FitsV w (.int .u64) v0) (h1 : FitsV w (.int .i64) v1) :
 Calls Try.prog 6 #[v0, v1] w fun e w' => e = .returned (.bool true) ∧ Below w.heap.size w w' := wPoolNilH poolC v0 v1 w h0 h1
theorem wPoolSplits (v0 v1 : Value) (w : World) (h0 : FitsV w (.int .i64) v0) (h1 : FitsV w (.int .i64) v1) :
 Calls Try.prog 7 #[v0, v1] w fun e w' => e = .returned (.bool true) ∧ Below w.heap.size w w' := wPoolSplitsH poolC v0 v1 w h0 h1
end Go.Proofs.Ytggmllobcemhhaa.B
