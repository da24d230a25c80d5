/- The document's board: a reset, ticks. -/
import Derived.Test.YtcgmnjajodegmaaGreatZTak
import Derived.Test.YtcgmnjajodegmaaGreatZTao
import Derived.Test.YtcgmnjajodegmaaGreatZTap
import Derived.Test.YtcgmnjajodegmaaGreatZTar
import Derived.Test.YtcgmnjajodegmaaGreatZTas
import Derived.Test.YtcgmnjajodegmaaGreatZTba
import Derived.Deep.RegionHeld
import Derived.Laws.OwnMore
set_option linter.unusedVariables false
set_option linter.unusedSimpArgs false
set_option maxRecDepth 100000
namespace Go.Proofs.YtcgmnjajodegmaaGreat.B
open Go.ChangeShapes Go.WideShapes Go.RowKit Go.Sort
abbrev tE2 : TypeId := 103
theorem infoE2 : (Tryz.prog.info? 103).map (fun i => (i.zero, i.size, i.bytes)) = some (some (.agg #[.int .u64 0, .int .i64 0]), 2, 16) := by kernel_rfl
structure MV (w : World) (c : Nat) (x : Bx) (bk ev : Value) : Prop where
 k : ∃ g cap, bk = .slice (some ⟨g, 0, none⟩) c cap /\ RwAt w g c cap x.tm
 e : EvAt w tE2 ev x.es
theorem MV.below {w w' : World} {c : Nat} {x : Bx} {bk ev : Value} (M : MV w c x bk ev) (hb : Below w.heap.size w w') : MV w' c x bk ev := by
 obtain ⟨g, cap, h1, h2⟩ := M.k
 exact ⟨⟨g, cap, h1, h2.below hb⟩, M.e.below hb⟩
theorem MV.one {w : World} {c : Nat} {x : Bx} {bk ev : Value} (M : MV w c x bk ev) : bk.oneCell' = true /\ ev.oneCell' = true := by
 obtain ⟨g, cap, rfl, h2⟩ := M.k
 exact ⟨rfl, ev_one M.e⟩
theorem step_append_none {P : Program} {ops : Array Oper} {o : Oper} {a : Act} {w : World} {K : Act -> World -> Prop} {Q : Exit -> Act -> World -> Prop} {E : Prop}
 (hg : o.guard = none) (s x : Operand) (t : TypeId) (hop : o.op = Op.call { callee := Callee.builtin Builtin.append, args := #[s, x], argTypes := #[t, t] })
 (base : Nat) (e : TypeId) (i : TypeInfo) (size : Nat) (ht : P.underlying t = some (.slice e)) (hi : P.info? e = some i)
 (v : Value) (n : Nat) (xs : List Value) (hs : a.eval s = v) (hown : w.ownsRow base e size v n xs) (hx : a.eval x = .slice none 0 0) (hK : K (a.put o.dst v) w) :
 if Region.wanted o (yielded ops a.tmps) = true then Oper.wp P o a w K Q else E := by
 have hw : Region.wanted o (yielded ops a.tmps) = true := by simp [Region.wanted, hg]
 rw [if_pos hw]
 have hrun := run_append_owned_none (P := P) (w := w) base t o.type e i size ht hi v n xs hown
 unfold Oper.wp
 simp [execOp, hop, resolve, invoke, builtin, hs, hx, hrun, Result.andThen]
 exact hK
theorem truths0 : Value.agg #[.bool false, .bool false, .bool false, .bool false, .bool false, .bool false, .bool false, .bool false, .bool false, .bool false, .bool false, .bool false, .bool false, .bool false, .bool false, .bool false, .bool false, .bool false, .bool false, .bool false, .bool false, .bool false, .bool false, .bool false, .bool false, .bool false, .bool false, .bool false, .bool false, .bool false, .bool false, .bool false] = Value.agg (bl (bit 0) 32).toArray := by
 rw [show (bl (bit 0) 32) = bl (fun _ => false) 32 from bl_congr _ _ _ fun i _ => bit_zero i]
 rfl
theorem ev_off {w w' : World} {b n : Nat} {y : Bx} {bk' ev' ev : Value} {es : List (Int × Int)} (e : EvAt w tE2 ev es) (ho : Off (· = b) w w') (h : NAt w b n y bk' ev') : EvAt w' tE2 ev es :=
 e.keep fun k hk => ho.block k (e.lt hk) (fun e2 => by have h1 := e.kd hk; rw [e2, kd_of h] at h1; revert h1; decide)
structure Q7 (w0 w : World) (b r n c g : Nat) (x : Bx) (cause : Int) (ev : Value) : Prop where
 F : Fr w0 w b r n { x with rs := x.rs.ltc cause, D := nvD, S := zeS, wd := wz, rk := x.rk.zero, msk := 0 } (.slice (some ⟨g, 0, none⟩) c c) ev
 e : EvAt w tE2 ev x.es
 k : RwAt w g c c (fun _ => tz)
theorem ev_cells {w : World} {T : TypeId} {g cap : Nat} {es : List (Int × Int)} (h : EvAt w T (.slice (some ⟨g, 0, none⟩) es.length cap) es) : ∀ j u, (es.flatMap evC)[j]? = some u -> w.cell? ((⟨g, 0, none⟩ : Addr).add j) = some u := by
 intro j u hj
 have hjl : j < es.length * 2 := by
  have := (List.getElem?_eq_some_iff.1 hj).1
  rwa [flat_len evC 2 evC_len] at this
 rw [Addr.add_lit, Nat.zero_add, World.ownsRow.cellAt h j hjl]
 exact hj
theorem q7_end {w0 w u : World} {b r n c g : Nat} {x : Bx} {cause : Int} {ev v : Value} (H : Q7 w0 w b r n c g x cause ev) (hb : Below w.heap.size w u) (ho : u.ownsRow w.heap.size 103 2 v (0 + x.es.length + 1) ([] ++ x.es.flatMap evC ++ [.int .u64 x.ti, .int .i64 cause])) :
 Fr w0 (u.setCell ⟨b, 109, none⟩ v) b r n { x with rs := x.rs.ltc cause, D := nvD, S := zeS, wd := wz, rk := x.rk.zero, msk := 0 } (.slice (some ⟨g, 0, none⟩) c c) v /\ MV (u.setCell ⟨b, 109, none⟩ v) c (x.rst cause) (.slice (some ⟨g, 0, none⟩) c c) v := by
 have F := H.F.below hb
 have hso := off_set u b 109 v
 have he : EvAt u tE2 v (x.es ++ [(x.ti, cause)]) := by
  unfold EvAt
  rw [List.length_append, List.flatMap_append]
  rw [Nat.zero_add, List.nil_append] at ho
  have := row_base ho
  simpa [evC] using this
 have hk := H.k.below hb
 exact ⟨F.turn (F.h.setE v) hso ⟨rfl, ev_one he⟩, ⟨⟨g, c, rfl, hk.off hso (hk.ne F.h rfl)⟩, ev_off he hso F.h⟩⟩
theorem mv_off {w w' : World} {b n c : Nat} {x y : Bx} {bk ev bk' ev' : Value} (M : MV w c x bk ev) (ho : Off (· = b) w w') (h : NAt w b n y bk' ev') : MV w' c x bk ev := by
 obtain ⟨g, cap, h1, h2⟩ := M.k
 exact ⟨⟨g, cap, h1, h2.off ho (h2.ne h rfl)⟩, M.e.keep fun k hk => ho.block k (M.e.lt hk) (fun e => by have h1 := M.e.kd hk; rw [e, kd_of h] at h1; revert h1; decide)⟩
def DocPost (n c : Nat) (y : Bx) (w : World) (e : Ending) (w' : World) : Prop := ∃ bk ev, e = .returned (.agg (ml n y bk ev).toArray) /\ MV w' c y bk ev /\ Below w.heap.size w w'
theorem doc_end {w0 w w' : World} {b r n c : Nat} {y z : Bx} {bk ev : Value} (F : Fr w0 w b r n y bk ev) (M : MV w c z bk ev) (h : NAt w' r n y bk ev) (ho : Off (· = r) w w') (hyz : ml n y bk ev = ml n z bk ev := by rfl) : DocPost n c z w0 (.returned (.agg (ml n y bk ev).toArray)) w' := by
 obtain ⟨cs, h1, h2⟩ := F.z
 have M2 : MV w' c z bk ev := by
  obtain ⟨g, cap, h3, h4⟩ := M.k
  exact ⟨⟨g, cap, h3, h4.off ho (h4.ne h1 rfl)⟩, M.e.keep fun k hk => ho.block k (M.e.lt hk) (fun e2 => by have h5 := M.e.kd hk; rw [e2, kd_of h1] at h5; revert h5; decide)⟩
 exact ⟨bk, ev, by rw [hyz], M2, Off.toBelow F.lo ho (fun k hk e => by have := F.hr; omega) (Nat.le_refl _)⟩
set_option maxHeartbeats 6400000 in
theorem mReset (n c : Nat) (x : Bx) (bk ev : Value) (cause : Int) (w : World) (M : MV w c x bk ev) (ok : x.ok n c) (hl : x.es.length < 4294967296) :
 Calls Tryz.prog 87 #[.agg (ml n x bk ev).toArray, .int .i64 cause] w (DocPost n c (x.rst cause) w) := by
 obtain ⟨i0, hi, hz0, hz1, hz2⟩ := info_parts infoE2
 have HI := Hd hi
 have HZ := Hd hz0
 have HZ1 := Hd hz1
 have HZ2 := Hd hz2
 have one := M.one
 have hfr := fr_new w n x bk ev one
 have hM0 := M.below (trA (trA (tr0 w) (oM11 n x bk ev)) zM11)
 have HOK := Hd ok
 have HMX := Hd (show 0 + x.es.length <= maxLen by unfold maxLen; omega)
 have HBY := Hd (show (0 + x.es.length) * 16 <= 140737488355328 by omega)
 have HMX1 := Hd (show 0 + x.es.length + 1 <= maxLen by unfold maxLen; omega)
 have HBY1 := Hd (show (0 + x.es.length + 1) * 16 <= 140737488355328 by omega)
 have hmk : ∀ w : World, (Instr.makeSlice 37 (.int .i64 c) (.int .i64 c)).run Tryz.prog w = .ok (.slice (some ⟨w.heap.size, 0, none⟩) c c) (w.alloc (zR c)) := fun w => mkRun c ok.c8 w
 obtain ⟨gk, capk, rfl, hrk⟩ := M.k
 clear hi hz0 hz1 hz2 hl hrk
 go_enter Tryz.func87, Tryz.ntmps87
 go_upto_region 1 with (fail)
 rw [oM11_eq, zM11_eq]
 generalize ((w.alloc (oM11 n x (.slice (some ⟨gk, 0, none⟩) c capk) ev)).alloc zM11) = W at *
 generalize w.heap.size + 1 = r at *
 generalize hbn : w.heap.size = b at *
 have HF := Hd hfr
 have HM := Hd hM0
 clear hfr hM0 M one hbn
 go_upto_region 2 with (first | (refine nLoadU rfl (.tmp 6) rfl rfl HF.out.h ?_) | (go_at_call 152; refine (uLatch x.rs cause _ HOK.out.rs).mono ?_; rintro e w1 ⟨rfl, b1⟩; have HF := Hd (HF.out.below b1); have HM := Hd (HM.out.below b1); clear b1) | (refine nStoreU rfl (.tmp 12) (.tmp 10) rfl rfl (x.rs.ltc cause) rfl HF.out ?_; intro w2 hF2 ho2; have HM := Hd (mv_off HM.out ho2 HF.out.h); have HF := Hd hF2; clear hF2 ho2))
 go_upto_region 3 with (first | (refine nLoadC rfl (.tmp 13) rfl rfl HF.out.h ?_) | (go_at_call 81; refine (rcReset _ _ _ _ _ _).mono ?_; rintro e w1 ⟨rfl, b1⟩; have HF := Hd (HF.out.below b1); have HM := Hd (HM.out.below b1); clear b1) | (refine nStoreC rfl (.tmp 16) (.tmp 15) rfl rfl x.ti nvD zeS rfl HF.out ?_; intro w2 hF2 ho2; have HM := Hd (mv_off HM.out ho2 HF.out.h); have HF := Hd hF2; clear hF2 ho2))
 have cB := HF.out.h.cB
 have fB := HF.out.h.free 26
 have lB := HF.out.h.lt
 have lB1 : b < w2.heap.size + 1 := Nat.lt_succ_of_lt lB
 go_upto_region 4 with (fail)
 clear cB fB lB lB1
 have hso := off_set w2 b 26 (.slice (some ⟨w2.heap.size, 0, none⟩) c c)
 have hsz : (w2.setCell ⟨b, 26, none⟩ (.slice (some ⟨w2.heap.size, 0, none⟩) c c)).heap.size = w2.heap.size := by simp
 have hM3 := mv_off HM.out hso HF.out.h
 have hF3 := HF.out.turn (HF.out.h.setB (.slice (some ⟨w2.heap.size, 0, none⟩) c c)) hso ⟨rfl, HF.out.one.2⟩
 have hR4 := rwMade c HOK.out.c8 (w2.setCell ⟨b, 26, none⟩ (.slice (some ⟨w2.heap.size, 0, none⟩) c c))
 have ha := trA (tr0 (w2.setCell ⟨b, 26, none⟩ (.slice (some ⟨w2.heap.size, 0, none⟩) c c))) (zR c)
 rw [hsz] at hR4
 have hM4 := hM3.below ha
 have hF4 := hF3.below ha
 generalize (w2.setCell ⟨b, 26, none⟩ (.slice (some ⟨w2.heap.size, 0, none⟩) c c)).alloc (zR c) = W4 at *
 generalize w2.heap.size = g4 at *
 have HF := Hd hF4
 have HE := Hd hM4.e
 have HR := Hd hR4
 clear ha hF3 hM3 hso hsz hM4 hR4 hF4 HM hmk
 go_upto_region 5 with (refine nStoreV rfl (.tmp 23) (.tmp 22) rfl rfl wz rfl HF.out ?_; intro w5 hF2 ho2; have HE := Hd (ev_off HE.out ho2 HF.out.h); have HR := Hd (HR.out.off ho2 (HR.out.ne HF.out.h rfl)); have HF := Hd hF2; clear hF2 ho2)
 go_upto_region 6 with (first | (refine nLoadK rfl (.tmp 24) rfl rfl HF.out.h ?_) | (go_at_call 153; refine (kReset x.rk _).mono ?_; rintro e w6 ⟨rfl, b1⟩; have HF := Hd (HF.out.below b1); have HE := Hd (HE.out.below b1); have HR := Hd (HR.out.below b1); clear b1) | (refine nStoreK rfl (.tmp 27) (.tmp 26) rfl rfl x.rk.zero rfl HF.out ?_; intro w7 hF2 ho2; have HE := Hd (ev_off HE.out ho2 HF.out.h); have HR := Hd (HR.out.off ho2 (HR.out.ne HF.out.h rfl)); have HF := Hd hF2; clear hF2 ho2))
 go_upto_region 7 with (refine nStoreM rfl (.tmp 29) (.tmp 28) rfl rfl 0 truths0 HF.out ?_; intro w8 hF2 ho2; have HE := Hd (ev_off HE.out ho2 HF.out.h); have HR := Hd (HR.out.off ho2 (HR.out.ne HF.out.h rfl)); have HF := Hd hF2; clear hF2 ho2)
 rename_i K7 hK7
 have HK7 := Hd hK7
 clear hK7
 have H0 := Hd (show Q7 w w8.drew b r n c g4 x cause ev from ⟨HF.out.below (trD (tr0 w8)), HE.out.below (trD (tr0 w8)), HR.out.below (trD (tr0 w8))⟩)
 have HB0 := Hd (tr0 w8.drew)
 clear HF HE HR
 rcases row_form H0.out.e with ⟨rfl, hlen⟩ | ⟨ge, cape, rfl, _⟩
 . have HLN := Hd hlen
   clear hlen
   refine wp_region_held_drew (S := fun w' => w'.cell? ⟨b, 0, none⟩ = some (.int .u64 x.ti)) (by kernel_rfl) H0.out.F.h.cT (fun _ => ?_)
   generalize w8.drew = W8 at *
   refine tkH (i := 1) (v := .pointer (some ⟨b, 109, none⟩)) rfl (by kernel_rfl) (fun _ _ _ h => h) (fun w' hSw => by clear hSw; go_simp) (H0.out.F.below HB0.out).h.cT ?_
   try simp only [Act.put, lsA, lsZ, lsS]
   refine tkH (i := 4) (v := .pointer (some ⟨b, 0, none⟩)) rfl (by kernel_rfl) (fun _ _ _ h => h) (fun w' hSw => by clear hSw; go_simp) (H0.out.F.below HB0.out).h.cT ?_
   try simp only [Act.put, lsA, lsZ, lsS]
   refine tkH (i := 5) (v := .pointer (some ⟨b, 0, none⟩)) rfl (by kernel_rfl) (fun _ _ _ h => h) (fun w' hSw => by clear hSw; go_simp) (H0.out.F.below HB0.out).h.cT ?_
   try simp only [Act.put, lsA, lsZ, lsS]
   refine tkH (i := 6) (v := .int .u64 x.ti) rfl (by kernel_rfl) (fun _ _ _ h => h) (fun w' hSw => by have c := hSw; clear hSw; (try dsimp only at c); go_simp) (H0.out.F.below HB0.out).h.cT ?_
   try simp only [Act.put, lsA, lsZ, lsS]
   refine tkH (i := 7) (v := .int .i64 cause) rfl (by kernel_rfl) (fun _ _ _ h => h) (fun w' hSw => by clear hSw; go_simp) (H0.out.F.below HB0.out).h.cT ?_
   try simp only [Act.put, lsA, lsZ, lsS]
   refine tkH (i := 8) (v := .agg #[.int .u64 x.ti, .int .i64 cause]) rfl (by kernel_rfl) (fun _ _ _ h => h) (fun w' hSw => by clear hSw; go_simp) (H0.out.F.below HB0.out).h.cT ?_
   try simp only [Act.put, lsA, lsZ, lsS]
   refine wpAnyH_ready (rs := [0, 2, 9]) (by kernel_rfl) (by simp) ?_
   refine AllReadyH.cons rfl (fun K hK => ?_) (AllReadyH.cons rfl (fun K hK => ?_) (AllReadyH.cons rfl (fun K hK => ?_) AllReadyH.nil))
   . have hsz : W8.heap.size = W8.heap.size := by simp
     have HE0 := Hd (show (W8.alloc (.cells #[] 103)).ownsRow W8.heap.size 103 2 (.slice (some ⟨W8.heap.size, 0, none⟩) 0 0) 0 [] from (by have := World.ownsRow_made (base := W8.heap.size) (e := 103) (size := 2) W8 #[] 0 HB0.out.size (by decide) rfl; rw [hsz] at this; exact this))
     have hb1 := trA (tr0 W8) (.cells #[] 103)
     have hlq := HB0.out.size
     have HQ0 := Hd (show W8.heap.size <= W8.heap.size by omega)
     have HB0 := Hd (tr HB0.out hb1)
     clear hb1 hsz hlq
     go_simp
     refine hK.out _ _ (H0.out.F.below HB0.out).h.cT (fun _ => ?_)
     clear hK K
     refine wpAnyH_ready (rs := [2, 9]) (by kernel_rfl) (by simp) ?_
     refine AllReadyH.cons rfl (fun K hK => ?_) (AllReadyH.cons rfl (fun K hK => ?_) AllReadyH.nil)
     . have c2 := (H0.out.F.below HB0.out).h.cE
       go_simp
       clear c2
       refine hK.out _ _ (H0.out.F.below HB0.out).h.cT (fun _ => ?_)
       clear hK K
       refine wpAnyH_ready (rs := [3, 9]) (by kernel_rfl) (by simp) ?_
       refine AllReadyH.cons rfl (fun K hK => ?_) (AllReadyH.cons rfl (fun K hK => ?_) AllReadyH.nil)
       . refine step_append_none rfl (.tmp 30) (.tmp 32) 45 rfl W8.heap.size 103 i0 2 Tryz.underlying45 HI.out (.slice (some ⟨W8.heap.size, 0, none⟩) 0 0) 0 [] rfl HE0.out rfl ?_
         have HA := Hd (show (W8.alloc (.cells #[] 103)).ownsRow W8.heap.size 103 2 (.slice (some ⟨W8.heap.size, 0, none⟩) 0 0) (0 + x.es.length) ([] ++ x.es.flatMap evC) from by rw [List.eq_nil_of_length_eq_zero HLN.out]; exact HE0.out)
         refine hK.out _ _ (H0.out.F.below HB0.out).h.cT (fun _ => ?_)
         clear hK K
         refine rdH (i := 9) (by kernel_rfl) rfl fun K hK => ?_
         have hb1 := trA (tr0 (W8.alloc (.cells #[] 103))) (.cells #[.int .u64 x.ti, .int .i64 cause] 103)
         have hsz : (W8.alloc (.cells #[] 103)).heap.size = W8.heap.size + 1 := by simp
         have HV := Hd (show ((W8.alloc (.cells #[] 103)).alloc (.cells #[.int .u64 x.ti, .int .i64 cause] 103)).heap[W8.heap.size + 1]? = some (.cells #[.int .u64 x.ti, .int .i64 cause] 103 (0, 0)) from (by have := blk_new (W8.alloc (.cells #[] 103)) (.cells #[.int .u64 x.ti, .int .i64 cause] 103); rw [hsz] at this; exact this))
         have HA := Hd (HA.out.alloc (.cells #[.int .u64 x.ti, .int .i64 cause] 103))
         have HB0 := Hd (tr HB0.out hb1)
         clear hb1 hsz
         go_simp
         refine hK.out _ _ (H0.out.F.below HB0.out).h.cT (fun _ => ?_)
         clear hK K
         refine rdH (i := 10) (by kernel_rfl) rfl fun K hK => ?_
         refine step_append_own rfl (.tmp 33) (.tmp 39) 45 rfl W8.heap.size 103 i0 (.agg #[.int .u64 0, .int .i64 0]) 2 16 Tryz.underlying45 HI.out HZ.out HZ1.out HZ2.out rfl (by decide) (.slice (some ⟨W8.heap.size, 0, none⟩) 0 0) (0 + x.es.length) ([] ++ x.es.flatMap evC) rfl HA.out ⟨W8.heap.size + 1, 0, none⟩ 1 1 [.int .u64 x.ti, .int .i64 cause] rfl rfl (cells2e HV.out) (one2e _ _) HMX1.out HBY1.out HB0.out.size ?_
         intro v2 u2 hown2 hgr2 hnil2 hat2
         have HA2 := Hd hown2
         have HB0 := Hd (Off.toBelow HB0.out (Off.ofGrown (S := fun k => ((.slice (some ⟨W8.heap.size, 0, none⟩) 0 0) : Value).ownBlock = some k) hgr2 fun k e => e) (fun k hk e => by have := (World.ownsRow.lt HA.out k e).1; omega) (Nat.le_refl _))
         clear hown2 hgr2 hnil2 hat2
         refine hK.out _ _ (H0.out.F.below HB0.out).h.cT (fun _ => ?_)
         clear hK K
         refine tkH (i := 11) (v := .pointer (some ⟨b, 109, none⟩)) rfl (by kernel_rfl) (fun _ _ _ h => h) (fun w' hSw => by clear hSw; go_simp) (H0.out.F.below HB0.out).h.cT ?_
         try simp only [Act.put, lsA, lsZ, lsS]
         refine rdH (i := 12) (by kernel_rfl) rfl fun K hK => ?_
         have hF9 := H0.out.F.below HB0.out
         have c9 := hF9.h.cE
         have f9 := hF9.h.free 109
         have l9 := hF9.h.lt
         obtain ⟨g9, cap9, rfl⟩ := row_some (HA2.out)
         have HN := Hd (q7_end H0.out HB0.out HA2.out)
         go_simp
         refine hK.out _ _ (hF9.h.setE _).cT (fun _ => ?_)
         clear hK K c9 f9 l9 hF9
         refine wpAnyH_done (by kernel_rfl) ?_ _
         refine HK7.out _ _ ?_
         clear HK7 K7
         obtain ⟨hF, hV⟩ := HN.out
         simp only [Nat.zero_add] at hF hV
         generalize u2.setCell ⟨b, 109, none⟩ (.slice (some ⟨g9, 0, none⟩) (x.es.length + 1) cap9) = u9 at *
         have HF := Hd hF
         have HV9 := Hd hV
         clear hF hV HN
         go_wp2_with (first | (refine nLoadB rfl (.tmp 2) rfl rfl HF.out.h ?_) | (obtain ⟨cz, hz1, hz2⟩ := HF.out.z; refine nStoreB rfl (.tmp 4) (.tmp 42) rfl rfl { x with rs := x.rs.ltc cause, D := nvD, S := zeS, wd := wz, rk := x.rk.zero, msk := 0 } (.slice (some ⟨g4, 0, none⟩) c c) _ n rfl hz1 hz2 HF.out.one ?_; intro u10 hN10 ho10; have HX := Hd (doc_end HF.out HV9.out hN10 ho10); have HN10 := Hd hN10; clear hN10 ho10 hz1 hz2))
         exact bodyPost_ret (resN rfl _ _ rfl HN10.out) rfl HX.out
       . have hb1 := trA (tr0 (W8.alloc (.cells #[] 103))) (.cells #[.int .u64 x.ti, .int .i64 cause] 103)
         have hsz : (W8.alloc (.cells #[] 103)).heap.size = W8.heap.size + 1 := by simp
         have HV := Hd (show ((W8.alloc (.cells #[] 103)).alloc (.cells #[.int .u64 x.ti, .int .i64 cause] 103)).heap[W8.heap.size + 1]? = some (.cells #[.int .u64 x.ti, .int .i64 cause] 103 (0, 0)) from (by have := blk_new (W8.alloc (.cells #[] 103)) (.cells #[.int .u64 x.ti, .int .i64 cause] 103); rw [hsz] at this; exact this))
         have HNE := Hd (show W8.heap.size + 1 ≠ W8.heap.size by omega)
         have HE0 := Hd (HE0.out.alloc (.cells #[.int .u64 x.ti, .int .i64 cause] 103))
         have HB0 := Hd (tr HB0.out hb1)
         clear hb1 hsz
         go_simp
         refine hK.out _ _ (H0.out.F.below HB0.out).h.cT (fun _ => ?_)
         clear hK K
         refine rdH (i := 3) (by kernel_rfl) rfl fun K hK => ?_
         refine step_append_none rfl (.tmp 30) (.tmp 32) 45 rfl W8.heap.size 103 i0 2 Tryz.underlying45 HI.out (.slice (some ⟨W8.heap.size, 0, none⟩) 0 0) 0 [] rfl HE0.out rfl ?_
         have HA := Hd (show ((W8.alloc (.cells #[] 103)).alloc (.cells #[.int .u64 x.ti, .int .i64 cause] 103)).ownsRow W8.heap.size 103 2 (.slice (some ⟨W8.heap.size, 0, none⟩) 0 0) (0 + x.es.length) ([] ++ x.es.flatMap evC) from by rw [List.eq_nil_of_length_eq_zero HLN.out]; exact HE0.out)
         refine hK.out _ _ (H0.out.F.below HB0.out).h.cT (fun _ => ?_)
         clear hK K
         refine rdH (i := 10) (by kernel_rfl) rfl fun K hK => ?_
         refine step_append_own rfl (.tmp 33) (.tmp 39) 45 rfl W8.heap.size 103 i0 (.agg #[.int .u64 0, .int .i64 0]) 2 16 Tryz.underlying45 HI.out HZ.out HZ1.out HZ2.out rfl (by decide) (.slice (some ⟨W8.heap.size, 0, none⟩) 0 0) (0 + x.es.length) ([] ++ x.es.flatMap evC) rfl HA.out ⟨W8.heap.size + 1, 0, none⟩ 1 1 [.int .u64 x.ti, .int .i64 cause] rfl rfl (cells2e HV.out) (one2e _ _) HMX1.out HBY1.out HB0.out.size ?_
         intro v2 u2 hown2 hgr2 hnil2 hat2
         have HA2 := Hd hown2
         have HB0 := Hd (Off.toBelow HB0.out (Off.ofGrown (S := fun k => ((.slice (some ⟨W8.heap.size, 0, none⟩) 0 0) : Value).ownBlock = some k) hgr2 fun k e => e) (fun k hk e => by have := (World.ownsRow.lt HA.out k e).1; omega) (Nat.le_refl _))
         clear hown2 hgr2 hnil2 hat2
         refine hK.out _ _ (H0.out.F.below HB0.out).h.cT (fun _ => ?_)
         clear hK K
         refine tkH (i := 11) (v := .pointer (some ⟨b, 109, none⟩)) rfl (by kernel_rfl) (fun _ _ _ h => h) (fun w' hSw => by clear hSw; go_simp) (H0.out.F.below HB0.out).h.cT ?_
         try simp only [Act.put, lsA, lsZ, lsS]
         refine rdH (i := 12) (by kernel_rfl) rfl fun K hK => ?_
         have hF9 := H0.out.F.below HB0.out
         have c9 := hF9.h.cE
         have f9 := hF9.h.free 109
         have l9 := hF9.h.lt
         obtain ⟨g9, cap9, rfl⟩ := row_some (HA2.out)
         have HN := Hd (q7_end H0.out HB0.out HA2.out)
         go_simp
         refine hK.out _ _ (hF9.h.setE _).cT (fun _ => ?_)
         clear hK K c9 f9 l9 hF9
         refine wpAnyH_done (by kernel_rfl) ?_ _
         refine HK7.out _ _ ?_
         clear HK7 K7
         obtain ⟨hF, hV⟩ := HN.out
         simp only [Nat.zero_add] at hF hV
         generalize u2.setCell ⟨b, 109, none⟩ (.slice (some ⟨g9, 0, none⟩) (x.es.length + 1) cap9) = u9 at *
         have HF := Hd hF
         have HV9 := Hd hV
         clear hF hV HN
         go_wp2_with (first | (refine nLoadB rfl (.tmp 2) rfl rfl HF.out.h ?_) | (obtain ⟨cz, hz1, hz2⟩ := HF.out.z; refine nStoreB rfl (.tmp 4) (.tmp 42) rfl rfl { x with rs := x.rs.ltc cause, D := nvD, S := zeS, wd := wz, rk := x.rk.zero, msk := 0 } (.slice (some ⟨g4, 0, none⟩) c c) _ n rfl hz1 hz2 HF.out.one ?_; intro u10 hN10 ho10; have HX := Hd (doc_end HF.out HV9.out hN10 ho10); have HN10 := Hd hN10; clear hN10 ho10 hz1 hz2))
         exact bodyPost_ret (resN rfl _ _ rfl HN10.out) rfl HX.out
     . have hb1 := trA (tr0 (W8.alloc (.cells #[] 103))) (.cells #[.int .u64 x.ti, .int .i64 cause] 103)
       have hsz : (W8.alloc (.cells #[] 103)).heap.size = W8.heap.size + 1 := by simp
       have HV := Hd (show ((W8.alloc (.cells #[] 103)).alloc (.cells #[.int .u64 x.ti, .int .i64 cause] 103)).heap[W8.heap.size + 1]? = some (.cells #[.int .u64 x.ti, .int .i64 cause] 103 (0, 0)) from (by have := blk_new (W8.alloc (.cells #[] 103)) (.cells #[.int .u64 x.ti, .int .i64 cause] 103); rw [hsz] at this; exact this))
       have HNE := Hd (show W8.heap.size + 1 ≠ W8.heap.size by omega)
       have HE0 := Hd (HE0.out.alloc (.cells #[.int .u64 x.ti, .int .i64 cause] 103))
       have HB0 := Hd (tr HB0.out hb1)
       clear hb1 hsz
       go_simp
       refine hK.out _ _ (H0.out.F.below HB0.out).h.cT (fun _ => ?_)
       clear hK K
       refine rdH (i := 2) (by kernel_rfl) rfl fun K hK => ?_
       have c2 := (H0.out.F.below HB0.out).h.cE
       go_simp
       clear c2
       refine hK.out _ _ (H0.out.F.below HB0.out).h.cT (fun _ => ?_)
       clear hK K
       refine rdH (i := 3) (by kernel_rfl) rfl fun K hK => ?_
       refine step_append_none rfl (.tmp 30) (.tmp 32) 45 rfl W8.heap.size 103 i0 2 Tryz.underlying45 HI.out (.slice (some ⟨W8.heap.size, 0, none⟩) 0 0) 0 [] rfl HE0.out rfl ?_
       have HA := Hd (show ((W8.alloc (.cells #[] 103)).alloc (.cells #[.int .u64 x.ti, .int .i64 cause] 103)).ownsRow W8.heap.size 103 2 (.slice (some ⟨W8.heap.size, 0, none⟩) 0 0) (0 + x.es.length) ([] ++ x.es.flatMap evC) from by rw [List.eq_nil_of_length_eq_zero HLN.out]; exact HE0.out)
       refine hK.out _ _ (H0.out.F.below HB0.out).h.cT (fun _ => ?_)
       clear hK K
       refine rdH (i := 10) (by kernel_rfl) rfl fun K hK => ?_
       refine step_append_own rfl (.tmp 33) (.tmp 39) 45 rfl W8.heap.size 103 i0 (.agg #[.int .u64 0, .int .i64 0]) 2 16 Tryz.underlying45 HI.out HZ.out HZ1.out HZ2.out rfl (by decide) (.slice (some ⟨W8.heap.size, 0, none⟩) 0 0) (0 + x.es.length) ([] ++ x.es.flatMap evC) rfl HA.out ⟨W8.heap.size + 1, 0, none⟩ 1 1 [.int .u64 x.ti, .int .i64 cause] rfl rfl (cells2e HV.out) (one2e _ _) HMX1.out HBY1.out HB0.out.size ?_
       intro v2 u2 hown2 hgr2 hnil2 hat2
       have HA2 := Hd hown2
       have HB0 := Hd (Off.toBelow HB0.out (Off.ofGrown (S := fun k => ((.slice (some ⟨W8.heap.size, 0, none⟩) 0 0) : Value).ownBlock = some k) hgr2 fun k e => e) (fun k hk e => by have := (World.ownsRow.lt HA.out k e).1; omega) (Nat.le_refl _))
       clear hown2 hgr2 hnil2 hat2
       refine hK.out _ _ (H0.out.F.below HB0.out).h.cT (fun _ => ?_)
       clear hK K
       refine tkH (i := 11) (v := .pointer (some ⟨b, 109, none⟩)) rfl (by kernel_rfl) (fun _ _ _ h => h) (fun w' hSw => by clear hSw; go_simp) (H0.out.F.below HB0.out).h.cT ?_
       try simp only [Act.put, lsA, lsZ, lsS]
       refine rdH (i := 12) (by kernel_rfl) rfl fun K hK => ?_
       have hF9 := H0.out.F.below HB0.out
       have c9 := hF9.h.cE
       have f9 := hF9.h.free 109
       have l9 := hF9.h.lt
       obtain ⟨g9, cap9, rfl⟩ := row_some (HA2.out)
       have HN := Hd (q7_end H0.out HB0.out HA2.out)
       go_simp
       refine hK.out _ _ (hF9.h.setE _).cT (fun _ => ?_)
       clear hK K c9 f9 l9 hF9
       refine wpAnyH_done (by kernel_rfl) ?_ _
       refine HK7.out _ _ ?_
       clear HK7 K7
       obtain ⟨hF, hV⟩ := HN.out
       simp only [Nat.zero_add] at hF hV
       generalize u2.setCell ⟨b, 109, none⟩ (.slice (some ⟨g9, 0, none⟩) (x.es.length + 1) cap9) = u9 at *
       have HF := Hd hF
       have HV9 := Hd hV
       clear hF hV HN
       go_wp2_with (first | (refine nLoadB rfl (.tmp 2) rfl rfl HF.out.h ?_) | (obtain ⟨cz, hz1, hz2⟩ := HF.out.z; refine nStoreB rfl (.tmp 4) (.tmp 42) rfl rfl { x with rs := x.rs.ltc cause, D := nvD, S := zeS, wd := wz, rk := x.rk.zero, msk := 0 } (.slice (some ⟨g4, 0, none⟩) c c) _ n rfl hz1 hz2 HF.out.one ?_; intro u10 hN10 ho10; have HX := Hd (doc_end HF.out HV9.out hN10 ho10); have HN10 := Hd hN10; clear hN10 ho10 hz1 hz2))
       exact bodyPost_ret (resN rfl _ _ rfl HN10.out) rfl HX.out
   . have c2 := (H0.out.F.below HB0.out).h.cE
     go_simp
     clear c2
     refine hK.out _ _ (H0.out.F.below HB0.out).h.cT (fun _ => ?_)
     clear hK K
     refine wpAnyH_ready (rs := [0, 9]) (by kernel_rfl) (by simp) ?_
     refine AllReadyH.cons rfl (fun K hK => ?_) (AllReadyH.cons rfl (fun K hK => ?_) AllReadyH.nil)
     . have hsz : W8.heap.size = W8.heap.size := by simp
       have HE0 := Hd (show (W8.alloc (.cells #[] 103)).ownsRow W8.heap.size 103 2 (.slice (some ⟨W8.heap.size, 0, none⟩) 0 0) 0 [] from (by have := World.ownsRow_made (base := W8.heap.size) (e := 103) (size := 2) W8 #[] 0 HB0.out.size (by decide) rfl; rw [hsz] at this; exact this))
       have hb1 := trA (tr0 W8) (.cells #[] 103)
       have hlq := HB0.out.size
       have HQ0 := Hd (show W8.heap.size <= W8.heap.size by omega)
       have HB0 := Hd (tr HB0.out hb1)
       clear hb1 hsz hlq
       go_simp
       refine hK.out _ _ (H0.out.F.below HB0.out).h.cT (fun _ => ?_)
       clear hK K
       refine wpAnyH_ready (rs := [3, 9]) (by kernel_rfl) (by simp) ?_
       refine AllReadyH.cons rfl (fun K hK => ?_) (AllReadyH.cons rfl (fun K hK => ?_) AllReadyH.nil)
       . refine step_append_none rfl (.tmp 30) (.tmp 32) 45 rfl W8.heap.size 103 i0 2 Tryz.underlying45 HI.out (.slice (some ⟨W8.heap.size, 0, none⟩) 0 0) 0 [] rfl HE0.out rfl ?_
         have HA := Hd (show (W8.alloc (.cells #[] 103)).ownsRow W8.heap.size 103 2 (.slice (some ⟨W8.heap.size, 0, none⟩) 0 0) (0 + x.es.length) ([] ++ x.es.flatMap evC) from by rw [List.eq_nil_of_length_eq_zero HLN.out]; exact HE0.out)
         refine hK.out _ _ (H0.out.F.below HB0.out).h.cT (fun _ => ?_)
         clear hK K
         refine rdH (i := 9) (by kernel_rfl) rfl fun K hK => ?_
         have hb1 := trA (tr0 (W8.alloc (.cells #[] 103))) (.cells #[.int .u64 x.ti, .int .i64 cause] 103)
         have hsz : (W8.alloc (.cells #[] 103)).heap.size = W8.heap.size + 1 := by simp
         have HV := Hd (show ((W8.alloc (.cells #[] 103)).alloc (.cells #[.int .u64 x.ti, .int .i64 cause] 103)).heap[W8.heap.size + 1]? = some (.cells #[.int .u64 x.ti, .int .i64 cause] 103 (0, 0)) from (by have := blk_new (W8.alloc (.cells #[] 103)) (.cells #[.int .u64 x.ti, .int .i64 cause] 103); rw [hsz] at this; exact this))
         have HA := Hd (HA.out.alloc (.cells #[.int .u64 x.ti, .int .i64 cause] 103))
         have HB0 := Hd (tr HB0.out hb1)
         clear hb1 hsz
         go_simp
         refine hK.out _ _ (H0.out.F.below HB0.out).h.cT (fun _ => ?_)
         clear hK K
         refine rdH (i := 10) (by kernel_rfl) rfl fun K hK => ?_
         refine step_append_own rfl (.tmp 33) (.tmp 39) 45 rfl W8.heap.size 103 i0 (.agg #[.int .u64 0, .int .i64 0]) 2 16 Tryz.underlying45 HI.out HZ.out HZ1.out HZ2.out rfl (by decide) (.slice (some ⟨W8.heap.size, 0, none⟩) 0 0) (0 + x.es.length) ([] ++ x.es.flatMap evC) rfl HA.out ⟨W8.heap.size + 1, 0, none⟩ 1 1 [.int .u64 x.ti, .int .i64 cause] rfl rfl (cells2e HV.out) (one2e _ _) HMX1.out HBY1.out HB0.out.size ?_
         intro v2 u2 hown2 hgr2 hnil2 hat2
         have HA2 := Hd hown2
         have HB0 := Hd (Off.toBelow HB0.out (Off.ofGrown (S := fun k => ((.slice (some ⟨W8.heap.size, 0, none⟩) 0 0) : Value).ownBlock = some k) hgr2 fun k e => e) (fun k hk e => by have := (World.ownsRow.lt HA.out k e).1; omega) (Nat.le_refl _))
         clear hown2 hgr2 hnil2 hat2
         refine hK.out _ _ (H0.out.F.below HB0.out).h.cT (fun _ => ?_)
         clear hK K
         refine tkH (i := 11) (v := .pointer (some ⟨b, 109, none⟩)) rfl (by kernel_rfl) (fun _ _ _ h => h) (fun w' hSw => by clear hSw; go_simp) (H0.out.F.below HB0.out).h.cT ?_
         try simp only [Act.put, lsA, lsZ, lsS]
         refine rdH (i := 12) (by kernel_rfl) rfl fun K hK => ?_
         have hF9 := H0.out.F.below HB0.out
         have c9 := hF9.h.cE
         have f9 := hF9.h.free 109
         have l9 := hF9.h.lt
         obtain ⟨g9, cap9, rfl⟩ := row_some (HA2.out)
         have HN := Hd (q7_end H0.out HB0.out HA2.out)
         go_simp
         refine hK.out _ _ (hF9.h.setE _).cT (fun _ => ?_)
         clear hK K c9 f9 l9 hF9
         refine wpAnyH_done (by kernel_rfl) ?_ _
         refine HK7.out _ _ ?_
         clear HK7 K7
         obtain ⟨hF, hV⟩ := HN.out
         simp only [Nat.zero_add] at hF hV
         generalize u2.setCell ⟨b, 109, none⟩ (.slice (some ⟨g9, 0, none⟩) (x.es.length + 1) cap9) = u9 at *
         have HF := Hd hF
         have HV9 := Hd hV
         clear hF hV HN
         go_wp2_with (first | (refine nLoadB rfl (.tmp 2) rfl rfl HF.out.h ?_) | (obtain ⟨cz, hz1, hz2⟩ := HF.out.z; refine nStoreB rfl (.tmp 4) (.tmp 42) rfl rfl { x with rs := x.rs.ltc cause, D := nvD, S := zeS, wd := wz, rk := x.rk.zero, msk := 0 } (.slice (some ⟨g4, 0, none⟩) c c) _ n rfl hz1 hz2 HF.out.one ?_; intro u10 hN10 ho10; have HX := Hd (doc_end HF.out HV9.out hN10 ho10); have HN10 := Hd hN10; clear hN10 ho10 hz1 hz2))
         exact bodyPost_ret (resN rfl _ _ rfl HN10.out) rfl HX.out
       . have hb1 := trA (tr0 (W8.alloc (.cells #[] 103))) (.cells #[.int .u64 x.ti, .int .i64 cause] 103)
         have hsz : (W8.alloc (.cells #[] 103)).heap.size = W8.heap.size + 1 := by simp
         have HV := Hd (show ((W8.alloc (.cells #[] 103)).alloc (.cells #[.int .u64 x.ti, .int .i64 cause] 103)).heap[W8.heap.size + 1]? = some (.cells #[.int .u64 x.ti, .int .i64 cause] 103 (0, 0)) from (by have := blk_new (W8.alloc (.cells #[] 103)) (.cells #[.int .u64 x.ti, .int .i64 cause] 103); rw [hsz] at this; exact this))
         have HNE := Hd (show W8.heap.size + 1 ≠ W8.heap.size by omega)
         have HE0 := Hd (HE0.out.alloc (.cells #[.int .u64 x.ti, .int .i64 cause] 103))
         have HB0 := Hd (tr HB0.out hb1)
         clear hb1 hsz
         go_simp
         refine hK.out _ _ (H0.out.F.below HB0.out).h.cT (fun _ => ?_)
         clear hK K
         refine rdH (i := 3) (by kernel_rfl) rfl fun K hK => ?_
         refine step_append_none rfl (.tmp 30) (.tmp 32) 45 rfl W8.heap.size 103 i0 2 Tryz.underlying45 HI.out (.slice (some ⟨W8.heap.size, 0, none⟩) 0 0) 0 [] rfl HE0.out rfl ?_
         have HA := Hd (show ((W8.alloc (.cells #[] 103)).alloc (.cells #[.int .u64 x.ti, .int .i64 cause] 103)).ownsRow W8.heap.size 103 2 (.slice (some ⟨W8.heap.size, 0, none⟩) 0 0) (0 + x.es.length) ([] ++ x.es.flatMap evC) from by rw [List.eq_nil_of_length_eq_zero HLN.out]; exact HE0.out)
         refine hK.out _ _ (H0.out.F.below HB0.out).h.cT (fun _ => ?_)
         clear hK K
         refine rdH (i := 10) (by kernel_rfl) rfl fun K hK => ?_
         refine step_append_own rfl (.tmp 33) (.tmp 39) 45 rfl W8.heap.size 103 i0 (.agg #[.int .u64 0, .int .i64 0]) 2 16 Tryz.underlying45 HI.out HZ.out HZ1.out HZ2.out rfl (by decide) (.slice (some ⟨W8.heap.size, 0, none⟩) 0 0) (0 + x.es.length) ([] ++ x.es.flatMap evC) rfl HA.out ⟨W8.heap.size + 1, 0, none⟩ 1 1 [.int .u64 x.ti, .int .i64 cause] rfl rfl (cells2e HV.out) (one2e _ _) HMX1.out HBY1.out HB0.out.size ?_
         intro v2 u2 hown2 hgr2 hnil2 hat2
         have HA2 := Hd hown2
         have HB0 := Hd (Off.toBelow HB0.out (Off.ofGrown (S := fun k => ((.slice (some ⟨W8.heap.size, 0, none⟩) 0 0) : Value).ownBlock = some k) hgr2 fun k e => e) (fun k hk e => by have := (World.ownsRow.lt HA.out k e).1; omega) (Nat.le_refl _))
         clear hown2 hgr2 hnil2 hat2
         refine hK.out _ _ (H0.out.F.below HB0.out).h.cT (fun _ => ?_)
         clear hK K
         refine tkH (i := 11) (v := .pointer (some ⟨b, 109, none⟩)) rfl (by kernel_rfl) (fun _ _ _ h => h) (fun w' hSw => by clear hSw; go_simp) (H0.out.F.below HB0.out).h.cT ?_
         try simp only [Act.put, lsA, lsZ, lsS]
         refine rdH (i := 12) (by kernel_rfl) rfl fun K hK => ?_
         have hF9 := H0.out.F.below HB0.out
         have c9 := hF9.h.cE
         have f9 := hF9.h.free 109
         have l9 := hF9.h.lt
         obtain ⟨g9, cap9, rfl⟩ := row_some (HA2.out)
         have HN := Hd (q7_end H0.out HB0.out HA2.out)
         go_simp
         refine hK.out _ _ (hF9.h.setE _).cT (fun _ => ?_)
         clear hK K c9 f9 l9 hF9
         refine wpAnyH_done (by kernel_rfl) ?_ _
         refine HK7.out _ _ ?_
         clear HK7 K7
         obtain ⟨hF, hV⟩ := HN.out
         simp only [Nat.zero_add] at hF hV
         generalize u2.setCell ⟨b, 109, none⟩ (.slice (some ⟨g9, 0, none⟩) (x.es.length + 1) cap9) = u9 at *
         have HF := Hd hF
         have HV9 := Hd hV
         clear hF hV HN
         go_wp2_with (first | (refine nLoadB rfl (.tmp 2) rfl rfl HF.out.h ?_) | (obtain ⟨cz, hz1, hz2⟩ := HF.out.z; refine nStoreB rfl (.tmp 4) (.tmp 42) rfl rfl { x with rs := x.rs.ltc cause, D := nvD, S := zeS, wd := wz, rk := x.rk.zero, msk := 0 } (.slice (some ⟨g4, 0, none⟩) c c) _ n rfl hz1 hz2 HF.out.one ?_; intro u10 hN10 ho10; have HX := Hd (doc_end HF.out HV9.out hN10 ho10); have HN10 := Hd hN10; clear hN10 ho10 hz1 hz2))
         exact bodyPost_ret (resN rfl _ _ rfl HN10.out) rfl HX.out
     . have hb1 := trA (tr0 W8) (.cells #[.int .u64 x.ti, .int .i64 cause] 103)
       have hsz : W8.heap.size = W8.heap.size := by simp
       have HV := Hd (show (W8.alloc (.cells #[.int .u64 x.ti, .int .i64 cause] 103)).heap[W8.heap.size]? = some (.cells #[.int .u64 x.ti, .int .i64 cause] 103 (0, 0)) from (by have := blk_new W8 (.cells #[.int .u64 x.ti, .int .i64 cause] 103); rw [hsz] at this; exact this))
       have HB0 := Hd (tr HB0.out hb1)
       clear hb1 hsz
       go_simp
       refine hK.out _ _ (H0.out.F.below HB0.out).h.cT (fun _ => ?_)
       clear hK K
       refine rdH (i := 0) (by kernel_rfl) rfl fun K hK => ?_
       have hsz : (W8.alloc (.cells #[.int .u64 x.ti, .int .i64 cause] 103)).heap.size = W8.heap.size + 1 := by simp
       have HE0 := Hd (show ((W8.alloc (.cells #[.int .u64 x.ti, .int .i64 cause] 103)).alloc (.cells #[] 103)).ownsRow W8.heap.size 103 2 (.slice (some ⟨W8.heap.size + 1, 0, none⟩) 0 0) 0 [] from (by have := World.ownsRow_made (base := W8.heap.size) (e := 103) (size := 2) (W8.alloc (.cells #[.int .u64 x.ti, .int .i64 cause] 103)) #[] 0 HB0.out.size (by decide) rfl; rw [hsz] at this; exact this))
       have hb1 := trA (tr0 (W8.alloc (.cells #[.int .u64 x.ti, .int .i64 cause] 103))) (.cells #[] 103)
       have hlq := HB0.out.size
       have HQ0 := Hd (show W8.heap.size <= W8.heap.size + 1 by omega)
       have HB0 := Hd (tr HB0.out hb1)
       have HNE := Hd (show W8.heap.size ≠ W8.heap.size + 1 by have := lt_of_block HV.out; omega)
       have HV := Hd (blk_below hb1 HV.out (lt_of_block HV.out))
       clear hb1 hsz hlq
       go_simp
       refine hK.out _ _ (H0.out.F.below HB0.out).h.cT (fun _ => ?_)
       clear hK K
       refine rdH (i := 3) (by kernel_rfl) rfl fun K hK => ?_
       refine step_append_none rfl (.tmp 30) (.tmp 32) 45 rfl W8.heap.size 103 i0 2 Tryz.underlying45 HI.out (.slice (some ⟨W8.heap.size + 1, 0, none⟩) 0 0) 0 [] rfl HE0.out rfl ?_
       have HA := Hd (show ((W8.alloc (.cells #[.int .u64 x.ti, .int .i64 cause] 103)).alloc (.cells #[] 103)).ownsRow W8.heap.size 103 2 (.slice (some ⟨W8.heap.size + 1, 0, none⟩) 0 0) (0 + x.es.length) ([] ++ x.es.flatMap evC) from by rw [List.eq_nil_of_length_eq_zero HLN.out]; exact HE0.out)
       refine hK.out _ _ (H0.out.F.below HB0.out).h.cT (fun _ => ?_)
       clear hK K
       refine rdH (i := 10) (by kernel_rfl) rfl fun K hK => ?_
       refine step_append_own rfl (.tmp 33) (.tmp 39) 45 rfl W8.heap.size 103 i0 (.agg #[.int .u64 0, .int .i64 0]) 2 16 Tryz.underlying45 HI.out HZ.out HZ1.out HZ2.out rfl (by decide) (.slice (some ⟨W8.heap.size + 1, 0, none⟩) 0 0) (0 + x.es.length) ([] ++ x.es.flatMap evC) rfl HA.out ⟨W8.heap.size, 0, none⟩ 1 1 [.int .u64 x.ti, .int .i64 cause] rfl rfl (cells2e HV.out) (one2e _ _) HMX1.out HBY1.out HB0.out.size ?_
       intro v2 u2 hown2 hgr2 hnil2 hat2
       have HA2 := Hd hown2
       have HB0 := Hd (Off.toBelow HB0.out (Off.ofGrown (S := fun k => ((.slice (some ⟨W8.heap.size + 1, 0, none⟩) 0 0) : Value).ownBlock = some k) hgr2 fun k e => e) (fun k hk e => by have := (World.ownsRow.lt HA.out k e).1; omega) (Nat.le_refl _))
       clear hown2 hgr2 hnil2 hat2
       refine hK.out _ _ (H0.out.F.below HB0.out).h.cT (fun _ => ?_)
       clear hK K
       refine tkH (i := 11) (v := .pointer (some ⟨b, 109, none⟩)) rfl (by kernel_rfl) (fun _ _ _ h => h) (fun w' hSw => by clear hSw; go_simp) (H0.out.F.below HB0.out).h.cT ?_
       try simp only [Act.put, lsA, lsZ, lsS]
       refine rdH (i := 12) (by kernel_rfl) rfl fun K hK => ?_
       have hF9 := H0.out.F.below HB0.out
       have c9 := hF9.h.cE
       have f9 := hF9.h.free 109
       have l9 := hF9.h.lt
       obtain ⟨g9, cap9, rfl⟩ := row_some (HA2.out)
       have HN := Hd (q7_end H0.out HB0.out HA2.out)
       go_simp
       refine hK.out _ _ (hF9.h.setE _).cT (fun _ => ?_)
       clear hK K c9 f9 l9 hF9
       refine wpAnyH_done (by kernel_rfl) ?_ _
       refine HK7.out _ _ ?_
       clear HK7 K7
       obtain ⟨hF, hV⟩ := HN.out
       simp only [Nat.zero_add] at hF hV
       generalize u2.setCell ⟨b, 109, none⟩ (.slice (some ⟨g9, 0, none⟩) (x.es.length + 1) cap9) = u9 at *
       have HF := Hd hF
       have HV9 := Hd hV
       clear hF hV HN
       go_wp2_with (first | (refine nLoadB rfl (.tmp 2) rfl rfl HF.out.h ?_) | (obtain ⟨cz, hz1, hz2⟩ := HF.out.z; refine nStoreB rfl (.tmp 4) (.tmp 42) rfl rfl { x with rs := x.rs.ltc cause, D := nvD, S := zeS, wd := wz, rk := x.rk.zero, msk := 0 } (.slice (some ⟨g4, 0, none⟩) c c) _ n rfl hz1 hz2 HF.out.one ?_; intro u10 hN10 ho10; have HX := Hd (doc_end HF.out HV9.out hN10 ho10); have HN10 := Hd hN10; clear hN10 ho10 hz1 hz2))
       exact bodyPost_ret (resN rfl _ _ rfl HN10.out) rfl HX.out
   . have hb1 := trA (tr0 W8) (.cells #[.int .u64 x.ti, .int .i64 cause] 103)
     have hsz : W8.heap.size = W8.heap.size := by simp
     have HV := Hd (show (W8.alloc (.cells #[.int .u64 x.ti, .int .i64 cause] 103)).heap[W8.heap.size]? = some (.cells #[.int .u64 x.ti, .int .i64 cause] 103 (0, 0)) from (by have := blk_new W8 (.cells #[.int .u64 x.ti, .int .i64 cause] 103); rw [hsz] at this; exact this))
     have HB0 := Hd (tr HB0.out hb1)
     clear hb1 hsz
     go_simp
     refine hK.out _ _ (H0.out.F.below HB0.out).h.cT (fun _ => ?_)
     clear hK K
     refine wpAnyH_ready (rs := [0, 2]) (by kernel_rfl) (by simp) ?_
     refine AllReadyH.cons rfl (fun K hK => ?_) (AllReadyH.cons rfl (fun K hK => ?_) AllReadyH.nil)
     . have hsz : (W8.alloc (.cells #[.int .u64 x.ti, .int .i64 cause] 103)).heap.size = W8.heap.size + 1 := by simp
       have HE0 := Hd (show ((W8.alloc (.cells #[.int .u64 x.ti, .int .i64 cause] 103)).alloc (.cells #[] 103)).ownsRow W8.heap.size 103 2 (.slice (some ⟨W8.heap.size + 1, 0, none⟩) 0 0) 0 [] from (by have := World.ownsRow_made (base := W8.heap.size) (e := 103) (size := 2) (W8.alloc (.cells #[.int .u64 x.ti, .int .i64 cause] 103)) #[] 0 HB0.out.size (by decide) rfl; rw [hsz] at this; exact this))
       have hb1 := trA (tr0 (W8.alloc (.cells #[.int .u64 x.ti, .int .i64 cause] 103))) (.cells #[] 103)
       have hlq := HB0.out.size
       have HQ0 := Hd (show W8.heap.size <= W8.heap.size + 1 by omega)
       have HB0 := Hd (tr HB0.out hb1)
       have HNE := Hd (show W8.heap.size ≠ W8.heap.size + 1 by have := lt_of_block HV.out; omega)
       have HV := Hd (blk_below hb1 HV.out (lt_of_block HV.out))
       clear hb1 hsz hlq
       go_simp
       refine hK.out _ _ (H0.out.F.below HB0.out).h.cT (fun _ => ?_)
       clear hK K
       refine rdH (i := 2) (by kernel_rfl) rfl fun K hK => ?_
       have c2 := (H0.out.F.below HB0.out).h.cE
       go_simp
       clear c2
       refine hK.out _ _ (H0.out.F.below HB0.out).h.cT (fun _ => ?_)
       clear hK K
       refine rdH (i := 3) (by kernel_rfl) rfl fun K hK => ?_
       refine step_append_none rfl (.tmp 30) (.tmp 32) 45 rfl W8.heap.size 103 i0 2 Tryz.underlying45 HI.out (.slice (some ⟨W8.heap.size + 1, 0, none⟩) 0 0) 0 [] rfl HE0.out rfl ?_
       have HA := Hd (show ((W8.alloc (.cells #[.int .u64 x.ti, .int .i64 cause] 103)).alloc (.cells #[] 103)).ownsRow W8.heap.size 103 2 (.slice (some ⟨W8.heap.size + 1, 0, none⟩) 0 0) (0 + x.es.length) ([] ++ x.es.flatMap evC) from by rw [List.eq_nil_of_length_eq_zero HLN.out]; exact HE0.out)
       refine hK.out _ _ (H0.out.F.below HB0.out).h.cT (fun _ => ?_)
       clear hK K
       refine rdH (i := 10) (by kernel_rfl) rfl fun K hK => ?_
       refine step_append_own rfl (.tmp 33) (.tmp 39) 45 rfl W8.heap.size 103 i0 (.agg #[.int .u64 0, .int .i64 0]) 2 16 Tryz.underlying45 HI.out HZ.out HZ1.out HZ2.out rfl (by decide) (.slice (some ⟨W8.heap.size + 1, 0, none⟩) 0 0) (0 + x.es.length) ([] ++ x.es.flatMap evC) rfl HA.out ⟨W8.heap.size, 0, none⟩ 1 1 [.int .u64 x.ti, .int .i64 cause] rfl rfl (cells2e HV.out) (one2e _ _) HMX1.out HBY1.out HB0.out.size ?_
       intro v2 u2 hown2 hgr2 hnil2 hat2
       have HA2 := Hd hown2
       have HB0 := Hd (Off.toBelow HB0.out (Off.ofGrown (S := fun k => ((.slice (some ⟨W8.heap.size + 1, 0, none⟩) 0 0) : Value).ownBlock = some k) hgr2 fun k e => e) (fun k hk e => by have := (World.ownsRow.lt HA.out k e).1; omega) (Nat.le_refl _))
       clear hown2 hgr2 hnil2 hat2
       refine hK.out _ _ (H0.out.F.below HB0.out).h.cT (fun _ => ?_)
       clear hK K
       refine tkH (i := 11) (v := .pointer (some ⟨b, 109, none⟩)) rfl (by kernel_rfl) (fun _ _ _ h => h) (fun w' hSw => by clear hSw; go_simp) (H0.out.F.below HB0.out).h.cT ?_
       try simp only [Act.put, lsA, lsZ, lsS]
       refine rdH (i := 12) (by kernel_rfl) rfl fun K hK => ?_
       have hF9 := H0.out.F.below HB0.out
       have c9 := hF9.h.cE
       have f9 := hF9.h.free 109
       have l9 := hF9.h.lt
       obtain ⟨g9, cap9, rfl⟩ := row_some (HA2.out)
       have HN := Hd (q7_end H0.out HB0.out HA2.out)
       go_simp
       refine hK.out _ _ (hF9.h.setE _).cT (fun _ => ?_)
       clear hK K c9 f9 l9 hF9
       refine wpAnyH_done (by kernel_rfl) ?_ _
       refine HK7.out _ _ ?_
       clear HK7 K7
       obtain ⟨hF, hV⟩ := HN.out
       simp only [Nat.zero_add] at hF hV
       generalize u2.setCell ⟨b, 109, none⟩ (.slice (some ⟨g9, 0, none⟩) (x.es.length + 1) cap9) = u9 at *
       have HF := Hd hF
       have HV9 := Hd hV
       clear hF hV HN
       go_wp2_with (first | (refine nLoadB rfl (.tmp 2) rfl rfl HF.out.h ?_) | (obtain ⟨cz, hz1, hz2⟩ := HF.out.z; refine nStoreB rfl (.tmp 4) (.tmp 42) rfl rfl { x with rs := x.rs.ltc cause, D := nvD, S := zeS, wd := wz, rk := x.rk.zero, msk := 0 } (.slice (some ⟨g4, 0, none⟩) c c) _ n rfl hz1 hz2 HF.out.one ?_; intro u10 hN10 ho10; have HX := Hd (doc_end HF.out HV9.out hN10 ho10); have HN10 := Hd hN10; clear hN10 ho10 hz1 hz2))
       exact bodyPost_ret (resN rfl _ _ rfl HN10.out) rfl HX.out
     . have c2 := (H0.out.F.below HB0.out).h.cE
       go_simp
       clear c2
       refine hK.out _ _ (H0.out.F.below HB0.out).h.cT (fun _ => ?_)
       clear hK K
       refine rdH (i := 0) (by kernel_rfl) rfl fun K hK => ?_
       have hsz : (W8.alloc (.cells #[.int .u64 x.ti, .int .i64 cause] 103)).heap.size = W8.heap.size + 1 := by simp
       have HE0 := Hd (show ((W8.alloc (.cells #[.int .u64 x.ti, .int .i64 cause] 103)).alloc (.cells #[] 103)).ownsRow W8.heap.size 103 2 (.slice (some ⟨W8.heap.size + 1, 0, none⟩) 0 0) 0 [] from (by have := World.ownsRow_made (base := W8.heap.size) (e := 103) (size := 2) (W8.alloc (.cells #[.int .u64 x.ti, .int .i64 cause] 103)) #[] 0 HB0.out.size (by decide) rfl; rw [hsz] at this; exact this))
       have hb1 := trA (tr0 (W8.alloc (.cells #[.int .u64 x.ti, .int .i64 cause] 103))) (.cells #[] 103)
       have hlq := HB0.out.size
       have HQ0 := Hd (show W8.heap.size <= W8.heap.size + 1 by omega)
       have HB0 := Hd (tr HB0.out hb1)
       have HNE := Hd (show W8.heap.size ≠ W8.heap.size + 1 by have := lt_of_block HV.out; omega)
       have HV := Hd (blk_below hb1 HV.out (lt_of_block HV.out))
       clear hb1 hsz hlq
       go_simp
       refine hK.out _ _ (H0.out.F.below HB0.out).h.cT (fun _ => ?_)
       clear hK K
       refine rdH (i := 3) (by kernel_rfl) rfl fun K hK => ?_
       refine step_append_none rfl (.tmp 30) (.tmp 32) 45 rfl W8.heap.size 103 i0 2 Tryz.underlying45 HI.out (.slice (some ⟨W8.heap.size + 1, 0, none⟩) 0 0) 0 [] rfl HE0.out rfl ?_
       have HA := Hd (show ((W8.alloc (.cells #[.int .u64 x.ti, .int .i64 cause] 103)).alloc (.cells #[] 103)).ownsRow W8.heap.size 103 2 (.slice (some ⟨W8.heap.size + 1, 0, none⟩) 0 0) (0 + x.es.length) ([] ++ x.es.flatMap evC) from by rw [List.eq_nil_of_length_eq_zero HLN.out]; exact HE0.out)
       refine hK.out _ _ (H0.out.F.below HB0.out).h.cT (fun _ => ?_)
       clear hK K
       refine rdH (i := 10) (by kernel_rfl) rfl fun K hK => ?_
       refine step_append_own rfl (.tmp 33) (.tmp 39) 45 rfl W8.heap.size 103 i0 (.agg #[.int .u64 0, .int .i64 0]) 2 16 Tryz.underlying45 HI.out HZ.out HZ1.out HZ2.out rfl (by decide) (.slice (some ⟨W8.heap.size + 1, 0, none⟩) 0 0) (0 + x.es.length) ([] ++ x.es.flatMap evC) rfl HA.out ⟨W8.heap.size, 0, none⟩ 1 1 [.int .u64 x.ti, .int .i64 cause] rfl rfl (cells2e HV.out) (one2e _ _) HMX1.out HBY1.out HB0.out.size ?_
       intro v2 u2 hown2 hgr2 hnil2 hat2
       have HA2 := Hd hown2
       have HB0 := Hd (Off.toBelow HB0.out (Off.ofGrown (S := fun k => ((.slice (some ⟨W8.heap.size + 1, 0, none⟩) 0 0) : Value).ownBlock = some k) hgr2 fun k e => e) (fun k hk e => by have := (World.ownsRow.lt HA.out k e).1; omega) (Nat.le_refl _))
       clear hown2 hgr2 hnil2 hat2
       refine hK.out _ _ (H0.out.F.below HB0.out).h.cT (fun _ => ?_)
       clear hK K
       refine tkH (i := 11) (v := .pointer (some ⟨b, 109, none⟩)) rfl (by kernel_rfl) (fun _ _ _ h => h) (fun w' hSw => by clear hSw; go_simp) (H0.out.F.below HB0.out).h.cT ?_
       try simp only [Act.put, lsA, lsZ, lsS]
       refine rdH (i := 12) (by kernel_rfl) rfl fun K hK => ?_
       have hF9 := H0.out.F.below HB0.out
       have c9 := hF9.h.cE
       have f9 := hF9.h.free 109
       have l9 := hF9.h.lt
       obtain ⟨g9, cap9, rfl⟩ := row_some (HA2.out)
       have HN := Hd (q7_end H0.out HB0.out HA2.out)
       go_simp
       refine hK.out _ _ (hF9.h.setE _).cT (fun _ => ?_)
       clear hK K c9 f9 l9 hF9
       refine wpAnyH_done (by kernel_rfl) ?_ _
       refine HK7.out _ _ ?_
       clear HK7 K7
       obtain ⟨hF, hV⟩ := HN.out
       simp only [Nat.zero_add] at hF hV
       generalize u2.setCell ⟨b, 109, none⟩ (.slice (some ⟨g9, 0, none⟩) (x.es.length + 1) cap9) = u9 at *
       have HF := Hd hF
       have HV9 := Hd hV
       clear hF hV HN
       go_wp2_with (first | (refine nLoadB rfl (.tmp 2) rfl rfl HF.out.h ?_) | (obtain ⟨cz, hz1, hz2⟩ := HF.out.z; refine nStoreB rfl (.tmp 4) (.tmp 42) rfl rfl { x with rs := x.rs.ltc cause, D := nvD, S := zeS, wd := wz, rk := x.rk.zero, msk := 0 } (.slice (some ⟨g4, 0, none⟩) c c) _ n rfl hz1 hz2 HF.out.one ?_; intro u10 hN10 ho10; have HX := Hd (doc_end HF.out HV9.out hN10 ho10); have HN10 := Hd hN10; clear hN10 ho10 hz1 hz2))
       exact bodyPost_ret (resN rfl _ _ rfl HN10.out) rfl HX.out
 . refine wp_region_held_drew (S := fun w' => w'.cell? ⟨b, 0, none⟩ = some (.int .u64 x.ti)) (by kernel_rfl) H0.out.F.h.cT (fun _ => ?_)
   generalize w8.drew = W8 at *
   refine tkH (i := 1) (v := .pointer (some ⟨b, 109, none⟩)) rfl (by kernel_rfl) (fun _ _ _ h => h) (fun w' hSw => by clear hSw; go_simp) (H0.out.F.below HB0.out).h.cT ?_
   try simp only [Act.put, lsA, lsZ, lsS]
   refine tkH (i := 4) (v := .pointer (some ⟨b, 0, none⟩)) rfl (by kernel_rfl) (fun _ _ _ h => h) (fun w' hSw => by clear hSw; go_simp) (H0.out.F.below HB0.out).h.cT ?_
   try simp only [Act.put, lsA, lsZ, lsS]
   refine tkH (i := 5) (v := .pointer (some ⟨b, 0, none⟩)) rfl (by kernel_rfl) (fun _ _ _ h => h) (fun w' hSw => by clear hSw; go_simp) (H0.out.F.below HB0.out).h.cT ?_
   try simp only [Act.put, lsA, lsZ, lsS]
   refine tkH (i := 6) (v := .int .u64 x.ti) rfl (by kernel_rfl) (fun _ _ _ h => h) (fun w' hSw => by have c := hSw; clear hSw; (try dsimp only at c); go_simp) (H0.out.F.below HB0.out).h.cT ?_
   try simp only [Act.put, lsA, lsZ, lsS]
   refine tkH (i := 7) (v := .int .i64 cause) rfl (by kernel_rfl) (fun _ _ _ h => h) (fun w' hSw => by clear hSw; go_simp) (H0.out.F.below HB0.out).h.cT ?_
   try simp only [Act.put, lsA, lsZ, lsS]
   refine tkH (i := 8) (v := .agg #[.int .u64 x.ti, .int .i64 cause]) rfl (by kernel_rfl) (fun _ _ _ h => h) (fun w' hSw => by clear hSw; go_simp) (H0.out.F.below HB0.out).h.cT ?_
   try simp only [Act.put, lsA, lsZ, lsS]
   refine wpAnyH_ready (rs := [0, 2, 9]) (by kernel_rfl) (by simp) ?_
   refine AllReadyH.cons rfl (fun K hK => ?_) (AllReadyH.cons rfl (fun K hK => ?_) (AllReadyH.cons rfl (fun K hK => ?_) AllReadyH.nil))
   . have hsz : W8.heap.size = W8.heap.size := by simp
     have HE0 := Hd (show (W8.alloc (.cells #[] 103)).ownsRow W8.heap.size 103 2 (.slice (some ⟨W8.heap.size, 0, none⟩) 0 0) 0 [] from (by have := World.ownsRow_made (base := W8.heap.size) (e := 103) (size := 2) W8 #[] 0 HB0.out.size (by decide) rfl; rw [hsz] at this; exact this))
     have hb1 := trA (tr0 W8) (.cells #[] 103)
     have hlq := HB0.out.size
     have HQ0 := Hd (show W8.heap.size <= W8.heap.size by omega)
     have HB0 := Hd (tr HB0.out hb1)
     clear hb1 hsz hlq
     go_simp
     refine hK.out _ _ (H0.out.F.below HB0.out).h.cT (fun _ => ?_)
     clear hK K
     refine wpAnyH_ready (rs := [2, 9]) (by kernel_rfl) (by simp) ?_
     refine AllReadyH.cons rfl (fun K hK => ?_) (AllReadyH.cons rfl (fun K hK => ?_) AllReadyH.nil)
     . have c2 := (H0.out.F.below HB0.out).h.cE
       go_simp
       clear c2
       refine hK.out _ _ (H0.out.F.below HB0.out).h.cT (fun _ => ?_)
       clear hK K
       refine wpAnyH_ready (rs := [3, 9]) (by kernel_rfl) (by simp) ?_
       refine AllReadyH.cons rfl (fun K hK => ?_) (AllReadyH.cons rfl (fun K hK => ?_) AllReadyH.nil)
       . have hev := ev_cells (H0.out.e.below HB0.out)
         refine step_append_own rfl (.tmp 30) (.tmp 32) 45 rfl W8.heap.size 103 i0 (.agg #[.int .u64 0, .int .i64 0]) 2 16 Tryz.underlying45 HI.out HZ.out HZ1.out HZ2.out rfl (by decide) (.slice (some ⟨W8.heap.size, 0, none⟩) 0 0) 0 [] rfl HE0.out ⟨ge, 0, none⟩ x.es.length cape (x.es.flatMap evC) rfl (flat_len evC 2 evC_len x.es) hev (evC_one x.es) HMX.out HBY.out HB0.out.size ?_
         intro v1 u1 hown1 hgr1 hnil1 hat1
         have HA := Hd hown1
         have HB0 := Hd (Off.toBelow HB0.out (Off.ofGrown (S := (· = W8.heap.size)) hgr1 fun k e => by cases e; rfl) (fun k hk e => by have h1 := HQ0.out; omega) (Nat.le_refl _))
         clear hown1 hgr1 hnil1 hat1 hev
         refine hK.out _ _ (H0.out.F.below HB0.out).h.cT (fun _ => ?_)
         clear hK K
         refine rdH (i := 9) (by kernel_rfl) rfl fun K hK => ?_
         have hb1 := trA (tr0 u1) (.cells #[.int .u64 x.ti, .int .i64 cause] 103)
         have hsz : u1.heap.size = u1.heap.size := by simp
         have HV := Hd (show (u1.alloc (.cells #[.int .u64 x.ti, .int .i64 cause] 103)).heap[u1.heap.size]? = some (.cells #[.int .u64 x.ti, .int .i64 cause] 103 (0, 0)) from (by have := blk_new u1 (.cells #[.int .u64 x.ti, .int .i64 cause] 103); rw [hsz] at this; exact this))
         have HA := Hd (HA.out.alloc (.cells #[.int .u64 x.ti, .int .i64 cause] 103))
         have HB0 := Hd (tr HB0.out hb1)
         clear hb1 hsz
         go_simp
         refine hK.out _ _ (H0.out.F.below HB0.out).h.cT (fun _ => ?_)
         clear hK K
         refine rdH (i := 10) (by kernel_rfl) rfl fun K hK => ?_
         refine step_append_own rfl (.tmp 33) (.tmp 39) 45 rfl W8.heap.size 103 i0 (.agg #[.int .u64 0, .int .i64 0]) 2 16 Tryz.underlying45 HI.out HZ.out HZ1.out HZ2.out rfl (by decide) v1 (0 + x.es.length) ([] ++ x.es.flatMap evC) rfl HA.out ⟨u1.heap.size, 0, none⟩ 1 1 [.int .u64 x.ti, .int .i64 cause] rfl rfl (cells2e HV.out) (one2e _ _) HMX1.out HBY1.out HB0.out.size ?_
         intro v2 u2 hown2 hgr2 hnil2 hat2
         have HA2 := Hd hown2
         have HB0 := Hd (Off.toBelow HB0.out (Off.ofGrown (S := fun k => (v1 : Value).ownBlock = some k) hgr2 fun k e => e) (fun k hk e => by have := (World.ownsRow.lt HA.out k e).1; omega) (Nat.le_refl _))
         clear hown2 hgr2 hnil2 hat2
         refine hK.out _ _ (H0.out.F.below HB0.out).h.cT (fun _ => ?_)
         clear hK K
         refine tkH (i := 11) (v := .pointer (some ⟨b, 109, none⟩)) rfl (by kernel_rfl) (fun _ _ _ h => h) (fun w' hSw => by clear hSw; go_simp) (H0.out.F.below HB0.out).h.cT ?_
         try simp only [Act.put, lsA, lsZ, lsS]
         refine rdH (i := 12) (by kernel_rfl) rfl fun K hK => ?_
         have hF9 := H0.out.F.below HB0.out
         have c9 := hF9.h.cE
         have f9 := hF9.h.free 109
         have l9 := hF9.h.lt
         obtain ⟨g9, cap9, rfl⟩ := row_some (HA2.out)
         have HN := Hd (q7_end H0.out HB0.out HA2.out)
         go_simp
         refine hK.out _ _ (hF9.h.setE _).cT (fun _ => ?_)
         clear hK K c9 f9 l9 hF9
         refine wpAnyH_done (by kernel_rfl) ?_ _
         refine HK7.out _ _ ?_
         clear HK7 K7
         obtain ⟨hF, hV⟩ := HN.out
         simp only [Nat.zero_add] at hF hV
         generalize u2.setCell ⟨b, 109, none⟩ (.slice (some ⟨g9, 0, none⟩) (x.es.length + 1) cap9) = u9 at *
         have HF := Hd hF
         have HV9 := Hd hV
         clear hF hV HN
         go_wp2_with (first | (refine nLoadB rfl (.tmp 2) rfl rfl HF.out.h ?_) | (obtain ⟨cz, hz1, hz2⟩ := HF.out.z; refine nStoreB rfl (.tmp 4) (.tmp 42) rfl rfl { x with rs := x.rs.ltc cause, D := nvD, S := zeS, wd := wz, rk := x.rk.zero, msk := 0 } (.slice (some ⟨g4, 0, none⟩) c c) _ n rfl hz1 hz2 HF.out.one ?_; intro u10 hN10 ho10; have HX := Hd (doc_end HF.out HV9.out hN10 ho10); have HN10 := Hd hN10; clear hN10 ho10 hz1 hz2))
         exact bodyPost_ret (resN rfl _ _ rfl HN10.out) rfl HX.out
       . have hb1 := trA (tr0 (W8.alloc (.cells #[] 103))) (.cells #[.int .u64 x.ti, .int .i64 cause] 103)
         have hsz : (W8.alloc (.cells #[] 103)).heap.size = W8.heap.size + 1 := by simp
         have HV := Hd (show ((W8.alloc (.cells #[] 103)).alloc (.cells #[.int .u64 x.ti, .int .i64 cause] 103)).heap[W8.heap.size + 1]? = some (.cells #[.int .u64 x.ti, .int .i64 cause] 103 (0, 0)) from (by have := blk_new (W8.alloc (.cells #[] 103)) (.cells #[.int .u64 x.ti, .int .i64 cause] 103); rw [hsz] at this; exact this))
         have HNE := Hd (show W8.heap.size + 1 ≠ W8.heap.size by omega)
         have HE0 := Hd (HE0.out.alloc (.cells #[.int .u64 x.ti, .int .i64 cause] 103))
         have HB0 := Hd (tr HB0.out hb1)
         clear hb1 hsz
         go_simp
         refine hK.out _ _ (H0.out.F.below HB0.out).h.cT (fun _ => ?_)
         clear hK K
         refine rdH (i := 3) (by kernel_rfl) rfl fun K hK => ?_
         have hev := ev_cells (H0.out.e.below HB0.out)
         refine step_append_own rfl (.tmp 30) (.tmp 32) 45 rfl W8.heap.size 103 i0 (.agg #[.int .u64 0, .int .i64 0]) 2 16 Tryz.underlying45 HI.out HZ.out HZ1.out HZ2.out rfl (by decide) (.slice (some ⟨W8.heap.size, 0, none⟩) 0 0) 0 [] rfl HE0.out ⟨ge, 0, none⟩ x.es.length cape (x.es.flatMap evC) rfl (flat_len evC 2 evC_len x.es) hev (evC_one x.es) HMX.out HBY.out HB0.out.size ?_
         intro v1 u1 hown1 hgr1 hnil1 hat1
         have HA := Hd hown1
         have HV := Hd ((Off.ofGrown (S := (· = W8.heap.size)) hgr1 fun k e => by cases e; rfl).at HV.out (fun e => HNE.out e))
         have HB0 := Hd (Off.toBelow HB0.out (Off.ofGrown (S := (· = W8.heap.size)) hgr1 fun k e => by cases e; rfl) (fun k hk e => by have h1 := HQ0.out; omega) (Nat.le_refl _))
         clear hown1 hgr1 hnil1 hat1 hev
         refine hK.out _ _ (H0.out.F.below HB0.out).h.cT (fun _ => ?_)
         clear hK K
         refine rdH (i := 10) (by kernel_rfl) rfl fun K hK => ?_
         refine step_append_own rfl (.tmp 33) (.tmp 39) 45 rfl W8.heap.size 103 i0 (.agg #[.int .u64 0, .int .i64 0]) 2 16 Tryz.underlying45 HI.out HZ.out HZ1.out HZ2.out rfl (by decide) v1 (0 + x.es.length) ([] ++ x.es.flatMap evC) rfl HA.out ⟨W8.heap.size + 1, 0, none⟩ 1 1 [.int .u64 x.ti, .int .i64 cause] rfl rfl (cells2e HV.out) (one2e _ _) HMX1.out HBY1.out HB0.out.size ?_
         intro v2 u2 hown2 hgr2 hnil2 hat2
         have HA2 := Hd hown2
         have HB0 := Hd (Off.toBelow HB0.out (Off.ofGrown (S := fun k => (v1 : Value).ownBlock = some k) hgr2 fun k e => e) (fun k hk e => by have := (World.ownsRow.lt HA.out k e).1; omega) (Nat.le_refl _))
         clear hown2 hgr2 hnil2 hat2
         refine hK.out _ _ (H0.out.F.below HB0.out).h.cT (fun _ => ?_)
         clear hK K
         refine tkH (i := 11) (v := .pointer (some ⟨b, 109, none⟩)) rfl (by kernel_rfl) (fun _ _ _ h => h) (fun w' hSw => by clear hSw; go_simp) (H0.out.F.below HB0.out).h.cT ?_
         try simp only [Act.put, lsA, lsZ, lsS]
         refine rdH (i := 12) (by kernel_rfl) rfl fun K hK => ?_
         have hF9 := H0.out.F.below HB0.out
         have c9 := hF9.h.cE
         have f9 := hF9.h.free 109
         have l9 := hF9.h.lt
         obtain ⟨g9, cap9, rfl⟩ := row_some (HA2.out)
         have HN := Hd (q7_end H0.out HB0.out HA2.out)
         go_simp
         refine hK.out _ _ (hF9.h.setE _).cT (fun _ => ?_)
         clear hK K c9 f9 l9 hF9
         refine wpAnyH_done (by kernel_rfl) ?_ _
         refine HK7.out _ _ ?_
         clear HK7 K7
         obtain ⟨hF, hV⟩ := HN.out
         simp only [Nat.zero_add] at hF hV
         generalize u2.setCell ⟨b, 109, none⟩ (.slice (some ⟨g9, 0, none⟩) (x.es.length + 1) cap9) = u9 at *
         have HF := Hd hF
         have HV9 := Hd hV
         clear hF hV HN
         go_wp2_with (first | (refine nLoadB rfl (.tmp 2) rfl rfl HF.out.h ?_) | (obtain ⟨cz, hz1, hz2⟩ := HF.out.z; refine nStoreB rfl (.tmp 4) (.tmp 42) rfl rfl { x with rs := x.rs.ltc cause, D := nvD, S := zeS, wd := wz, rk := x.rk.zero, msk := 0 } (.slice (some ⟨g4, 0, none⟩) c c) _ n rfl hz1 hz2 HF.out.one ?_; intro u10 hN10 ho10; have HX := Hd (doc_end HF.out HV9.out hN10 ho10); have HN10 := Hd hN10; clear hN10 ho10 hz1 hz2))
         exact bodyPost_ret (resN rfl _ _ rfl HN10.out) rfl HX.out
     . have hb1 := trA (tr0 (W8.alloc (.cells #[] 103))) (.cells #[.int .u64 x.ti, .int .i64 cause] 103)
       have hsz : (W8.alloc (.cells #[] 103)).heap.size = W8.heap.size + 1 := by simp
       have HV := Hd (show ((W8.alloc (.cells #[] 103)).alloc (.cells #[.int .u64 x.ti, .int .i64 cause] 103)).heap[W8.heap.size + 1]? = some (.cells #[.int .u64 x.ti, .int .i64 cause] 103 (0, 0)) from (by have := blk_new (W8.alloc (.cells #[] 103)) (.cells #[.int .u64 x.ti, .int .i64 cause] 103); rw [hsz] at this; exact this))
       have HNE := Hd (show W8.heap.size + 1 ≠ W8.heap.size by omega)
       have HE0 := Hd (HE0.out.alloc (.cells #[.int .u64 x.ti, .int .i64 cause] 103))
       have HB0 := Hd (tr HB0.out hb1)
       clear hb1 hsz
       go_simp
       refine hK.out _ _ (H0.out.F.below HB0.out).h.cT (fun _ => ?_)
       clear hK K
       refine rdH (i := 2) (by kernel_rfl) rfl fun K hK => ?_
       have c2 := (H0.out.F.below HB0.out).h.cE
       go_simp
       clear c2
       refine hK.out _ _ (H0.out.F.below HB0.out).h.cT (fun _ => ?_)
       clear hK K
       refine rdH (i := 3) (by kernel_rfl) rfl fun K hK => ?_
       have hev := ev_cells (H0.out.e.below HB0.out)
       refine step_append_own rfl (.tmp 30) (.tmp 32) 45 rfl W8.heap.size 103 i0 (.agg #[.int .u64 0, .int .i64 0]) 2 16 Tryz.underlying45 HI.out HZ.out HZ1.out HZ2.out rfl (by decide) (.slice (some ⟨W8.heap.size, 0, none⟩) 0 0) 0 [] rfl HE0.out ⟨ge, 0, none⟩ x.es.length cape (x.es.flatMap evC) rfl (flat_len evC 2 evC_len x.es) hev (evC_one x.es) HMX.out HBY.out HB0.out.size ?_
       intro v1 u1 hown1 hgr1 hnil1 hat1
       have HA := Hd hown1
       have HV := Hd ((Off.ofGrown (S := (· = W8.heap.size)) hgr1 fun k e => by cases e; rfl).at HV.out (fun e => HNE.out e))
       have HB0 := Hd (Off.toBelow HB0.out (Off.ofGrown (S := (· = W8.heap.size)) hgr1 fun k e => by cases e; rfl) (fun k hk e => by have h1 := HQ0.out; omega) (Nat.le_refl _))
       clear hown1 hgr1 hnil1 hat1 hev
       refine hK.out _ _ (H0.out.F.below HB0.out).h.cT (fun _ => ?_)
       clear hK K
       refine rdH (i := 10) (by kernel_rfl) rfl fun K hK => ?_
       refine step_append_own rfl (.tmp 33) (.tmp 39) 45 rfl W8.heap.size 103 i0 (.agg #[.int .u64 0, .int .i64 0]) 2 16 Tryz.underlying45 HI.out HZ.out HZ1.out HZ2.out rfl (by decide) v1 (0 + x.es.length) ([] ++ x.es.flatMap evC) rfl HA.out ⟨W8.heap.size + 1, 0, none⟩ 1 1 [.int .u64 x.ti, .int .i64 cause] rfl rfl (cells2e HV.out) (one2e _ _) HMX1.out HBY1.out HB0.out.size ?_
       intro v2 u2 hown2 hgr2 hnil2 hat2
       have HA2 := Hd hown2
       have HB0 := Hd (Off.toBelow HB0.out (Off.ofGrown (S := fun k => (v1 : Value).ownBlock = some k) hgr2 fun k e => e) (fun k hk e => by have := (World.ownsRow.lt HA.out k e).1; omega) (Nat.le_refl _))
       clear hown2 hgr2 hnil2 hat2
       refine hK.out _ _ (H0.out.F.below HB0.out).h.cT (fun _ => ?_)
       clear hK K
       refine tkH (i := 11) (v := .pointer (some ⟨b, 109, none⟩)) rfl (by kernel_rfl) (fun _ _ _ h => h) (fun w' hSw => by clear hSw; go_simp) (H0.out.F.below HB0.out).h.cT ?_
       try simp only [Act.put, lsA, lsZ, lsS]
       refine rdH (i := 12) (by kernel_rfl) rfl fun K hK => ?_
       have hF9 := H0.out.F.below HB0.out
       have c9 := hF9.h.cE
       have f9 := hF9.h.free 109
       have l9 := hF9.h.lt
       obtain ⟨g9, cap9, rfl⟩ := row_some (HA2.out)
       have HN := Hd (q7_end H0.out HB0.out HA2.out)
       go_simp
       refine hK.out _ _ (hF9.h.setE _).cT (fun _ => ?_)
       clear hK K c9 f9 l9 hF9
       refine wpAnyH_done (by kernel_rfl) ?_ _
       refine HK7.out _ _ ?_
       clear HK7 K7
       obtain ⟨hF, hV⟩ := HN.out
       simp only [Nat.zero_add] at hF hV
       generalize u2.setCell ⟨b, 109, none⟩ (.slice (some ⟨g9, 0, none⟩) (x.es.length + 1) cap9) = u9 at *
       have HF := Hd hF
       have HV9 := Hd hV
       clear hF hV HN
       go_wp2_with (first | (refine nLoadB rfl (.tmp 2) rfl rfl HF.out.h ?_) | (obtain ⟨cz, hz1, hz2⟩ := HF.out.z; refine nStoreB rfl (.tmp 4) (.tmp 42) rfl rfl { x with rs := x.rs.ltc cause, D := nvD, S := zeS, wd := wz, rk := x.rk.zero, msk := 0 } (.slice (some ⟨g4, 0, none⟩) c c) _ n rfl hz1 hz2 HF.out.one ?_; intro u10 hN10 ho10; have HX := Hd (doc_end HF.out HV9.out hN10 ho10); have HN10 := Hd hN10; clear hN10 ho10 hz1 hz2))
       exact bodyPost_ret (resN rfl _ _ rfl HN10.out) rfl HX.out
   . have c2 := (H0.out.F.below HB0.out).h.cE
     go_simp
     clear c2
     refine hK.out _ _ (H0.out.F.below HB0.out).h.cT (fun _ => ?_)
     clear hK K
     refine wpAnyH_ready (rs := [0, 9]) (by kernel_rfl) (by simp) ?_
     refine AllReadyH.cons rfl (fun K hK => ?_) (AllReadyH.cons rfl (fun K hK => ?_) AllReadyH.nil)
     . have hsz : W8.heap.size = W8.heap.size := by simp
       have HE0 := Hd (show (W8.alloc (.cells #[] 103)).ownsRow W8.heap.size 103 2 (.slice (some ⟨W8.heap.size, 0, none⟩) 0 0) 0 [] from (by have := World.ownsRow_made (base := W8.heap.size) (e := 103) (size := 2) W8 #[] 0 HB0.out.size (by decide) rfl; rw [hsz] at this; exact this))
       have hb1 := trA (tr0 W8) (.cells #[] 103)
       have hlq := HB0.out.size
       have HQ0 := Hd (show W8.heap.size <= W8.heap.size by omega)
       have HB0 := Hd (tr HB0.out hb1)
       clear hb1 hsz hlq
       go_simp
       refine hK.out _ _ (H0.out.F.below HB0.out).h.cT (fun _ => ?_)
       clear hK K
       refine wpAnyH_ready (rs := [3, 9]) (by kernel_rfl) (by simp) ?_
       refine AllReadyH.cons rfl (fun K hK => ?_) (AllReadyH.cons rfl (fun K hK => ?_) AllReadyH.nil)
       . have hev := ev_cells (H0.out.e.below HB0.out)
         refine step_append_own rfl (.tmp 30) (.tmp 32) 45 rfl W8.heap.size 103 i0 (.agg #[.int .u64 0, .int .i64 0]) 2 16 Tryz.underlying45 HI.out HZ.out HZ1.out HZ2.out rfl (by decide) (.slice (some ⟨W8.heap.size, 0, none⟩) 0 0) 0 [] rfl HE0.out ⟨ge, 0, none⟩ x.es.length cape (x.es.flatMap evC) rfl (flat_len evC 2 evC_len x.es) hev (evC_one x.es) HMX.out HBY.out HB0.out.size ?_
         intro v1 u1 hown1 hgr1 hnil1 hat1
         have HA := Hd hown1
         have HB0 := Hd (Off.toBelow HB0.out (Off.ofGrown (S := (· = W8.heap.size)) hgr1 fun k e => by cases e; rfl) (fun k hk e => by have h1 := HQ0.out; omega) (Nat.le_refl _))
         clear hown1 hgr1 hnil1 hat1 hev
         refine hK.out _ _ (H0.out.F.below HB0.out).h.cT (fun _ => ?_)
         clear hK K
         refine rdH (i := 9) (by kernel_rfl) rfl fun K hK => ?_
         have hb1 := trA (tr0 u1) (.cells #[.int .u64 x.ti, .int .i64 cause] 103)
         have hsz : u1.heap.size = u1.heap.size := by simp
         have HV := Hd (show (u1.alloc (.cells #[.int .u64 x.ti, .int .i64 cause] 103)).heap[u1.heap.size]? = some (.cells #[.int .u64 x.ti, .int .i64 cause] 103 (0, 0)) from (by have := blk_new u1 (.cells #[.int .u64 x.ti, .int .i64 cause] 103); rw [hsz] at this; exact this))
         have HA := Hd (HA.out.alloc (.cells #[.int .u64 x.ti, .int .i64 cause] 103))
         have HB0 := Hd (tr HB0.out hb1)
         clear hb1 hsz
         go_simp
         refine hK.out _ _ (H0.out.F.below HB0.out).h.cT (fun _ => ?_)
         clear hK K
         refine rdH (i := 10) (by kernel_rfl) rfl fun K hK => ?_
         refine step_append_own rfl (.tmp 33) (.tmp 39) 45 rfl W8.heap.size 103 i0 (.agg #[.int .u64 0, .int .i64 0]) 2 16 Tryz.underlying45 HI.out HZ.out HZ1.out HZ2.out rfl (by decide) v1 (0 + x.es.length) ([] ++ x.es.flatMap evC) rfl HA.out ⟨u1.heap.size, 0, none⟩ 1 1 [.int .u64 x.ti, .int .i64 cause] rfl rfl (cells2e HV.out) (one2e _ _) HMX1.out HBY1.out HB0.out.size ?_
         intro v2 u2 hown2 hgr2 hnil2 hat2
         have HA2 := Hd hown2
         have HB0 := Hd (Off.toBelow HB0.out (Off.ofGrown (S := fun k => (v1 : Value).ownBlock = some k) hgr2 fun k e => e) (fun k hk e => by have := (World.ownsRow.lt HA.out k e).1; omega) (Nat.le_refl _))
         clear hown2 hgr2 hnil2 hat2
         refine hK.out _ _ (H0.out.F.below HB0.out).h.cT (fun _ => ?_)
         clear hK K
         refine tkH (i := 11) (v := .pointer (some ⟨b, 109, none⟩)) rfl (by kernel_rfl) (fun _ _ _ h => h) (fun w' hSw => by clear hSw; go_simp) (H0.out.F.below HB0.out).h.cT ?_
         try simp only [Act.put, lsA, lsZ, lsS]
         refine rdH (i := 12) (by kernel_rfl) rfl fun K hK => ?_
         have hF9 := H0.out.F.below HB0.out
         have c9 := hF9.h.cE
         have f9 := hF9.h.free 109
         have l9 := hF9.h.lt
         obtain ⟨g9, cap9, rfl⟩ := row_some (HA2.out)
         have HN := Hd (q7_end H0.out HB0.out HA2.out)
         go_simp
         refine hK.out _ _ (hF9.h.setE _).cT (fun _ => ?_)
         clear hK K c9 f9 l9 hF9
         refine wpAnyH_done (by kernel_rfl) ?_ _
         refine HK7.out _ _ ?_
         clear HK7 K7
         obtain ⟨hF, hV⟩ := HN.out
         simp only [Nat.zero_add] at hF hV
         generalize u2.setCell ⟨b, 109, none⟩ (.slice (some ⟨g9, 0, none⟩) (x.es.length + 1) cap9) = u9 at *
         have HF := Hd hF
         have HV9 := Hd hV
         clear hF hV HN
         go_wp2_with (first | (refine nLoadB rfl (.tmp 2) rfl rfl HF.out.h ?_) | (obtain ⟨cz, hz1, hz2⟩ := HF.out.z; refine nStoreB rfl (.tmp 4) (.tmp 42) rfl rfl { x with rs := x.rs.ltc cause, D := nvD, S := zeS, wd := wz, rk := x.rk.zero, msk := 0 } (.slice (some ⟨g4, 0, none⟩) c c) _ n rfl hz1 hz2 HF.out.one ?_; intro u10 hN10 ho10; have HX := Hd (doc_end HF.out HV9.out hN10 ho10); have HN10 := Hd hN10; clear hN10 ho10 hz1 hz2))
         exact bodyPost_ret (resN rfl _ _ rfl HN10.out) rfl HX.out
       . have hb1 := trA (tr0 (W8.alloc (.cells #[] 103))) (.cells #[.int .u64 x.ti, .int .i64 cause] 103)
         have hsz : (W8.alloc (.cells #[] 103)).heap.size = W8.heap.size + 1 := by simp
         have HV := Hd (show ((W8.alloc (.cells #[] 103)).alloc (.cells #[.int .u64 x.ti, .int .i64 cause] 103)).heap[W8.heap.size + 1]? = some (.cells #[.int .u64 x.ti, .int .i64 cause] 103 (0, 0)) from (by have := blk_new (W8.alloc (.cells #[] 103)) (.cells #[.int .u64 x.ti, .int .i64 cause] 103); rw [hsz] at this; exact this))
         have HNE := Hd (show W8.heap.size + 1 ≠ W8.heap.size by omega)
         have HE0 := Hd (HE0.out.alloc (.cells #[.int .u64 x.ti, .int .i64 cause] 103))
         have HB0 := Hd (tr HB0.out hb1)
         clear hb1 hsz
         go_simp
         refine hK.out _ _ (H0.out.F.below HB0.out).h.cT (fun _ => ?_)
         clear hK K
         refine rdH (i := 3) (by kernel_rfl) rfl fun K hK => ?_
         have hev := ev_cells (H0.out.e.below HB0.out)
         refine step_append_own rfl (.tmp 30) (.tmp 32) 45 rfl W8.heap.size 103 i0 (.agg #[.int .u64 0, .int .i64 0]) 2 16 Tryz.underlying45 HI.out HZ.out HZ1.out HZ2.out rfl (by decide) (.slice (some ⟨W8.heap.size, 0, none⟩) 0 0) 0 [] rfl HE0.out ⟨ge, 0, none⟩ x.es.length cape (x.es.flatMap evC) rfl (flat_len evC 2 evC_len x.es) hev (evC_one x.es) HMX.out HBY.out HB0.out.size ?_
         intro v1 u1 hown1 hgr1 hnil1 hat1
         have HA := Hd hown1
         have HV := Hd ((Off.ofGrown (S := (· = W8.heap.size)) hgr1 fun k e => by cases e; rfl).at HV.out (fun e => HNE.out e))
         have HB0 := Hd (Off.toBelow HB0.out (Off.ofGrown (S := (· = W8.heap.size)) hgr1 fun k e => by cases e; rfl) (fun k hk e => by have h1 := HQ0.out; omega) (Nat.le_refl _))
         clear hown1 hgr1 hnil1 hat1 hev
         refine hK.out _ _ (H0.out.F.below HB0.out).h.cT (fun _ => ?_)
         clear hK K
         refine rdH (i := 10) (by kernel_rfl) rfl fun K hK => ?_
         refine step_append_own rfl (.tmp 33) (.tmp 39) 45 rfl W8.heap.size 103 i0 (.agg #[.int .u64 0, .int .i64 0]) 2 16 Tryz.underlying45 HI.out HZ.out HZ1.out HZ2.out rfl (by decide) v1 (0 + x.es.length) ([] ++ x.es.flatMap evC) rfl HA.out ⟨W8.heap.size + 1, 0, none⟩ 1 1 [.int .u64 x.ti, .int .i64 cause] rfl rfl (cells2e HV.out) (one2e _ _) HMX1.out HBY1.out HB0.out.size ?_
         intro v2 u2 hown2 hgr2 hnil2 hat2
         have HA2 := Hd hown2
         have HB0 := Hd (Off.toBelow HB0.out (Off.ofGrown (S := fun k => (v1 : Value).ownBlock = some k) hgr2 fun k e => e) (fun k hk e => by have := (World.ownsRow.lt HA.out k e).1; omega) (Nat.le_refl _))
         clear hown2 hgr2 hnil2 hat2
         refine hK.out _ _ (H0.out.F.below HB0.out).h.cT (fun _ => ?_)
         clear hK K
         refine tkH (i := 11) (v := .pointer (some ⟨b, 109, none⟩)) rfl (by kernel_rfl) (fun _ _ _ h => h) (fun w' hSw => by clear hSw; go_simp) (H0.out.F.below HB0.out).h.cT ?_
         try simp only [Act.put, lsA, lsZ, lsS]
         refine rdH (i := 12) (by kernel_rfl) rfl fun K hK => ?_
         have hF9 := H0.out.F.below HB0.out
         have c9 := hF9.h.cE
         have f9 := hF9.h.free 109
         have l9 := hF9.h.lt
         obtain ⟨g9, cap9, rfl⟩ := row_some (HA2.out)
         have HN := Hd (q7_end H0.out HB0.out HA2.out)
         go_simp
         refine hK.out _ _ (hF9.h.setE _).cT (fun _ => ?_)
         clear hK K c9 f9 l9 hF9
         refine wpAnyH_done (by kernel_rfl) ?_ _
         refine HK7.out _ _ ?_
         clear HK7 K7
         obtain ⟨hF, hV⟩ := HN.out
         simp only [Nat.zero_add] at hF hV
         generalize u2.setCell ⟨b, 109, none⟩ (.slice (some ⟨g9, 0, none⟩) (x.es.length + 1) cap9) = u9 at *
         have HF := Hd hF
         have HV9 := Hd hV
         clear hF hV HN
         go_wp2_with (first | (refine nLoadB rfl (.tmp 2) rfl rfl HF.out.h ?_) | (obtain ⟨cz, hz1, hz2⟩ := HF.out.z; refine nStoreB rfl (.tmp 4) (.tmp 42) rfl rfl { x with rs := x.rs.ltc cause, D := nvD, S := zeS, wd := wz, rk := x.rk.zero, msk := 0 } (.slice (some ⟨g4, 0, none⟩) c c) _ n rfl hz1 hz2 HF.out.one ?_; intro u10 hN10 ho10; have HX := Hd (doc_end HF.out HV9.out hN10 ho10); have HN10 := Hd hN10; clear hN10 ho10 hz1 hz2))
         exact bodyPost_ret (resN rfl _ _ rfl HN10.out) rfl HX.out
     . have hb1 := trA (tr0 W8) (.cells #[.int .u64 x.ti, .int .i64 cause] 103)
       have hsz : W8.heap.size = W8.heap.size := by simp
       have HV := Hd (show (W8.alloc (.cells #[.int .u64 x.ti, .int .i64 cause] 103)).heap[W8.heap.size]? = some (.cells #[.int .u64 x.ti, .int .i64 cause] 103 (0, 0)) from (by have := blk_new W8 (.cells #[.int .u64 x.ti, .int .i64 cause] 103); rw [hsz] at this; exact this))
       have HB0 := Hd (tr HB0.out hb1)
       clear hb1 hsz
       go_simp
       refine hK.out _ _ (H0.out.F.below HB0.out).h.cT (fun _ => ?_)
       clear hK K
       refine rdH (i := 0) (by kernel_rfl) rfl fun K hK => ?_
       have hsz : (W8.alloc (.cells #[.int .u64 x.ti, .int .i64 cause] 103)).heap.size = W8.heap.size + 1 := by simp
       have HE0 := Hd (show ((W8.alloc (.cells #[.int .u64 x.ti, .int .i64 cause] 103)).alloc (.cells #[] 103)).ownsRow W8.heap.size 103 2 (.slice (some ⟨W8.heap.size + 1, 0, none⟩) 0 0) 0 [] from (by have := World.ownsRow_made (base := W8.heap.size) (e := 103) (size := 2) (W8.alloc (.cells #[.int .u64 x.ti, .int .i64 cause] 103)) #[] 0 HB0.out.size (by decide) rfl; rw [hsz] at this; exact this))
       have hb1 := trA (tr0 (W8.alloc (.cells #[.int .u64 x.ti, .int .i64 cause] 103))) (.cells #[] 103)
       have hlq := HB0.out.size
       have HQ0 := Hd (show W8.heap.size <= W8.heap.size + 1 by omega)
       have HB0 := Hd (tr HB0.out hb1)
       have HNE := Hd (show W8.heap.size ≠ W8.heap.size + 1 by have := lt_of_block HV.out; omega)
       have HV := Hd (blk_below hb1 HV.out (lt_of_block HV.out))
       clear hb1 hsz hlq
       go_simp
       refine hK.out _ _ (H0.out.F.below HB0.out).h.cT (fun _ => ?_)
       clear hK K
       refine rdH (i := 3) (by kernel_rfl) rfl fun K hK => ?_
       have hev := ev_cells (H0.out.e.below HB0.out)
       refine step_append_own rfl (.tmp 30) (.tmp 32) 45 rfl W8.heap.size 103 i0 (.agg #[.int .u64 0, .int .i64 0]) 2 16 Tryz.underlying45 HI.out HZ.out HZ1.out HZ2.out rfl (by decide) (.slice (some ⟨W8.heap.size + 1, 0, none⟩) 0 0) 0 [] rfl HE0.out ⟨ge, 0, none⟩ x.es.length cape (x.es.flatMap evC) rfl (flat_len evC 2 evC_len x.es) hev (evC_one x.es) HMX.out HBY.out HB0.out.size ?_
       intro v1 u1 hown1 hgr1 hnil1 hat1
       have HA := Hd hown1
       have HV := Hd ((Off.ofGrown (S := (· = W8.heap.size + 1)) hgr1 fun k e => by cases e; rfl).at HV.out (fun e => HNE.out e))
       have HB0 := Hd (Off.toBelow HB0.out (Off.ofGrown (S := (· = W8.heap.size + 1)) hgr1 fun k e => by cases e; rfl) (fun k hk e => by have h1 := HQ0.out; omega) (Nat.le_refl _))
       clear hown1 hgr1 hnil1 hat1 hev
       refine hK.out _ _ (H0.out.F.below HB0.out).h.cT (fun _ => ?_)
       clear hK K
       refine rdH (i := 10) (by kernel_rfl) rfl fun K hK => ?_
       refine step_append_own rfl (.tmp 33) (.tmp 39) 45 rfl W8.heap.size 103 i0 (.agg #[.int .u64 0, .int .i64 0]) 2 16 Tryz.underlying45 HI.out HZ.out HZ1.out HZ2.out rfl (by decide) v1 (0 + x.es.length) ([] ++ x.es.flatMap evC) rfl HA.out ⟨W8.heap.size, 0, none⟩ 1 1 [.int .u64 x.ti, .int .i64 cause] rfl rfl (cells2e HV.out) (one2e _ _) HMX1.out HBY1.out HB0.out.size ?_
       intro v2 u2 hown2 hgr2 hnil2 hat2
       have HA2 := Hd hown2
       have HB0 := Hd (Off.toBelow HB0.out (Off.ofGrown (S := fun k => (v1 : Value).ownBlock = some k) hgr2 fun k e => e) (fun k hk e => by have := (World.ownsRow.lt HA.out k e).1; omega) (Nat.le_refl _))
       clear hown2 hgr2 hnil2 hat2
       refine hK.out _ _ (H0.out.F.below HB0.out).h.cT (fun _ => ?_)
       clear hK K
       refine tkH (i := 11) (v := .pointer (some ⟨b, 109, none⟩)) rfl (by kernel_rfl) (fun _ _ _ h => h) (fun w' hSw => by clear hSw; go_simp) (H0.out.F.below HB0.out).h.cT ?_
       try simp only [Act.put, lsA, lsZ, lsS]
       refine rdH (i := 12) (by kernel_rfl) rfl fun K hK => ?_
       have hF9 := H0.out.F.below HB0.out
       have c9 := hF9.h.cE
       have f9 := hF9.h.free 109
       have l9 := hF9.h.lt
       obtain ⟨g9, cap9, rfl⟩ := row_some (HA2.out)
       have HN := Hd (q7_end H0.out HB0.out HA2.out)
       go_simp
       refine hK.out _ _ (hF9.h.setE _).cT (fun _ => ?_)
       clear hK K c9 f9 l9 hF9
       refine wpAnyH_done (by kernel_rfl) ?_ _
       refine HK7.out _ _ ?_
       clear HK7 K7
       obtain ⟨hF, hV⟩ := HN.out
       simp only [Nat.zero_add] at hF hV
       generalize u2.setCell ⟨b, 109, none⟩ (.slice (some ⟨g9, 0, none⟩) (x.es.length + 1) cap9) = u9 at *
       have HF := Hd hF
       have HV9 := Hd hV
       clear hF hV HN
       go_wp2_with (first | (refine nLoadB rfl (.tmp 2) rfl rfl HF.out.h ?_) | (obtain ⟨cz, hz1, hz2⟩ := HF.out.z; refine nStoreB rfl (.tmp 4) (.tmp 42) rfl rfl { x with rs := x.rs.ltc cause, D := nvD, S := zeS, wd := wz, rk := x.rk.zero, msk := 0 } (.slice (some ⟨g4, 0, none⟩) c c) _ n rfl hz1 hz2 HF.out.one ?_; intro u10 hN10 ho10; have HX := Hd (doc_end HF.out HV9.out hN10 ho10); have HN10 := Hd hN10; clear hN10 ho10 hz1 hz2))
       exact bodyPost_ret (resN rfl _ _ rfl HN10.out) rfl HX.out
   . have hb1 := trA (tr0 W8) (.cells #[.int .u64 x.ti, .int .i64 cause] 103)
     have hsz : W8.heap.size = W8.heap.size := by simp
     have HV := Hd (show (W8.alloc (.cells #[.int .u64 x.ti, .int .i64 cause] 103)).heap[W8.heap.size]? = some (.cells #[.int .u64 x.ti, .int .i64 cause] 103 (0, 0)) from (by have := blk_new W8 (.cells #[.int .u64 x.ti, .int .i64 cause] 103); rw [hsz] at this; exact this))
     have HB0 := Hd (tr HB0.out hb1)
     clear hb1 hsz
     go_simp
     refine hK.out _ _ (H0.out.F.below HB0.out).h.cT (fun _ => ?_)
     clear hK K
     refine wpAnyH_ready (rs := [0, 2]) (by kernel_rfl) (by simp) ?_
     refine AllReadyH.cons rfl (fun K hK => ?_) (AllReadyH.cons rfl (fun K hK => ?_) AllReadyH.nil)
     . have hsz : (W8.alloc (.cells #[.int .u64 x.ti, .int .i64 cause] 103)).heap.size = W8.heap.size + 1 := by simp
       have HE0 := Hd (show ((W8.alloc (.cells #[.int .u64 x.ti, .int .i64 cause] 103)).alloc (.cells #[] 103)).ownsRow W8.heap.size 103 2 (.slice (some ⟨W8.heap.size + 1, 0, none⟩) 0 0) 0 [] from (by have := World.ownsRow_made (base := W8.heap.size) (e := 103) (size := 2) (W8.alloc (.cells #[.int .u64 x.ti, .int .i64 cause] 103)) #[] 0 HB0.out.size (by decide) rfl; rw [hsz] at this; exact this))
       have hb1 := trA (tr0 (W8.alloc (.cells #[.int .u64 x.ti, .int .i64 cause] 103))) (.cells #[] 103)
       have hlq := HB0.out.size
       have HQ0 := Hd (show W8.heap.size <= W8.heap.size + 1 by omega)
       have HB0 := Hd (tr HB0.out hb1)
       have HNE := Hd (show W8.heap.size ≠ W8.heap.size + 1 by have := lt_of_block HV.out; omega)
       have HV := Hd (blk_below hb1 HV.out (lt_of_block HV.out))
       clear hb1 hsz hlq
       go_simp
       refine hK.out _ _ (H0.out.F.below HB0.out).h.cT (fun _ => ?_)
       clear hK K
       refine rdH (i := 2) (by kernel_rfl) rfl fun K hK => ?_
       have c2 := (H0.out.F.below HB0.out).h.cE
       go_simp
       clear c2
       refine hK.out _ _ (H0.out.F.below HB0.out).h.cT (fun _ => ?_)
       clear hK K
       refine rdH (i := 3) (by kernel_rfl) rfl fun K hK => ?_
       have hev := ev_cells (H0.out.e.below HB0.out)
       refine step_append_own rfl (.tmp 30) (.tmp 32) 45 rfl W8.heap.size 103 i0 (.agg #[.int .u64 0, .int .i64 0]) 2 16 Tryz.underlying45 HI.out HZ.out HZ1.out HZ2.out rfl (by decide) (.slice (some ⟨W8.heap.size + 1, 0, none⟩) 0 0) 0 [] rfl HE0.out ⟨ge, 0, none⟩ x.es.length cape (x.es.flatMap evC) rfl (flat_len evC 2 evC_len x.es) hev (evC_one x.es) HMX.out HBY.out HB0.out.size ?_
       intro v1 u1 hown1 hgr1 hnil1 hat1
       have HA := Hd hown1
       have HV := Hd ((Off.ofGrown (S := (· = W8.heap.size + 1)) hgr1 fun k e => by cases e; rfl).at HV.out (fun e => HNE.out e))
       have HB0 := Hd (Off.toBelow HB0.out (Off.ofGrown (S := (· = W8.heap.size + 1)) hgr1 fun k e => by cases e; rfl) (fun k hk e => by have h1 := HQ0.out; omega) (Nat.le_refl _))
       clear hown1 hgr1 hnil1 hat1 hev
       refine hK.out _ _ (H0.out.F.below HB0.out).h.cT (fun _ => ?_)
       clear hK K
       refine rdH (i := 10) (by kernel_rfl) rfl fun K hK => ?_
       refine step_append_own rfl (.tmp 33) (.tmp 39) 45 rfl W8.heap.size 103 i0 (.agg #[.int .u64 0, .int .i64 0]) 2 16 Tryz.underlying45 HI.out HZ.out HZ1.out HZ2.out rfl (by decide) v1 (0 + x.es.length) ([] ++ x.es.flatMap evC) rfl HA.out ⟨W8.heap.size, 0, none⟩ 1 1 [.int .u64 x.ti, .int .i64 cause] rfl rfl (cells2e HV.out) (one2e _ _) HMX1.out HBY1.out HB0.out.size ?_
       intro v2 u2 hown2 hgr2 hnil2 hat2
       have HA2 := Hd hown2
       have HB0 := Hd (Off.toBelow HB0.out (Off.ofGrown (S := fun k => (v1 : Value).ownBlock = some k) hgr2 fun k e => e) (fun k hk e => by have := (World.ownsRow.lt HA.out k e).1; omega) (Nat.le_refl _))
       clear hown2 hgr2 hnil2 hat2
       refine hK.out _ _ (H0.out.F.below HB0.out).h.cT (fun _ => ?_)
       clear hK K
       refine tkH (i := 11) (v := .pointer (some ⟨b, 109, none⟩)) rfl (by kernel_rfl) (fun _ _ _ h => h) (fun w' hSw => by clear hSw; go_simp) (H0.out.F.below HB0.out).h.cT ?_
       try simp only [Act.put, lsA, lsZ, lsS]
       refine rdH (i := 12) (by kernel_rfl) rfl fun K hK => ?_
       have hF9 := H0.out.F.below HB0.out
       have c9 := hF9.h.cE
       have f9 := hF9.h.free 109
       have l9 := hF9.h.lt
       obtain ⟨g9, cap9, rfl⟩ := row_some (HA2.out)
       have HN := Hd (q7_end H0.out HB0.out HA2.out)
       go_simp
       refine hK.out _ _ (hF9.h.setE _).cT (fun _ => ?_)
       clear hK K c9 f9 l9 hF9
       refine wpAnyH_done (by kernel_rfl) ?_ _
       refine HK7.out _ _ ?_
       clear HK7 K7
       obtain ⟨hF, hV⟩ := HN.out
       simp only [Nat.zero_add] at hF hV
       generalize u2.setCell ⟨b, 109, none⟩ (.slice (some ⟨g9, 0, none⟩) (x.es.length + 1) cap9) = u9 at *
       have HF := Hd hF
       have HV9 := Hd hV
       clear hF hV HN
       go_wp2_with (first | (refine nLoadB rfl (.tmp 2) rfl rfl HF.out.h ?_) | (obtain ⟨cz, hz1, hz2⟩ := HF.out.z; refine nStoreB rfl (.tmp 4) (.tmp 42) rfl rfl { x with rs := x.rs.ltc cause, D := nvD, S := zeS, wd := wz, rk := x.rk.zero, msk := 0 } (.slice (some ⟨g4, 0, none⟩) c c) _ n rfl hz1 hz2 HF.out.one ?_; intro u10 hN10 ho10; have HX := Hd (doc_end HF.out HV9.out hN10 ho10); have HN10 := Hd hN10; clear hN10 ho10 hz1 hz2))
       exact bodyPost_ret (resN rfl _ _ rfl HN10.out) rfl HX.out
     . have c2 := (H0.out.F.below HB0.out).h.cE
       go_simp
       clear c2
       refine hK.out _ _ (H0.out.F.below HB0.out).h.cT (fun _ => ?_)
       clear hK K
       refine rdH (i := 0) (by kernel_rfl) rfl fun K hK => ?_
       have hsz : (W8.alloc (.cells #[.int .u64 x.ti, .int .i64 cause] 103)).heap.size = W8.heap.size + 1 := by simp
       have HE0 := Hd (show ((W8.alloc (.cells #[.int .u64 x.ti, .int .i64 cause] 103)).alloc (.cells #[] 103)).ownsRow W8.heap.size 103 2 (.slice (some ⟨W8.heap.size + 1, 0, none⟩) 0 0) 0 [] from (by have := World.ownsRow_made (base := W8.heap.size) (e := 103) (size := 2) (W8.alloc (.cells #[.int .u64 x.ti, .int .i64 cause] 103)) #[] 0 HB0.out.size (by decide) rfl; rw [hsz] at this; exact this))
       have hb1 := trA (tr0 (W8.alloc (.cells #[.int .u64 x.ti, .int .i64 cause] 103))) (.cells #[] 103)
       have hlq := HB0.out.size
       have HQ0 := Hd (show W8.heap.size <= W8.heap.size + 1 by omega)
       have HB0 := Hd (tr HB0.out hb1)
       have HNE := Hd (show W8.heap.size ≠ W8.heap.size + 1 by have := lt_of_block HV.out; omega)
       have HV := Hd (blk_below hb1 HV.out (lt_of_block HV.out))
       clear hb1 hsz hlq
       go_simp
       refine hK.out _ _ (H0.out.F.below HB0.out).h.cT (fun _ => ?_)
       clear hK K
       refine rdH (i := 3) (by kernel_rfl) rfl fun K hK => ?_
       have hev := ev_cells (H0.out.e.below HB0.out)
       refine step_append_own rfl (.tmp 30) (.tmp 32) 45 rfl W8.heap.size 103 i0 (.agg #[.int .u64 0, .int .i64 0]) 2 16 Tryz.underlying45 HI.out HZ.out HZ1.out HZ2.out rfl (by decide) (.slice (some ⟨W8.heap.size + 1, 0, none⟩) 0 0) 0 [] rfl HE0.out ⟨ge, 0, none⟩ x.es.length cape (x.es.flatMap evC) rfl (flat_len evC 2 evC_len x.es) hev (evC_one x.es) HMX.out HBY.out HB0.out.size ?_
       intro v1 u1 hown1 hgr1 hnil1 hat1
       have HA := Hd hown1
       have HV := Hd ((Off.ofGrown (S := (· = W8.heap.size + 1)) hgr1 fun k e => by cases e; rfl).at HV.out (fun e => HNE.out e))
       have HB0 := Hd (Off.toBelow HB0.out (Off.ofGrown (S := (· = W8.heap.size + 1)) hgr1 fun k e => by cases e; rfl) (fun k hk e => by have h1 := HQ0.out; omega) (Nat.le_refl _))
       clear hown1 hgr1 hnil1 hat1 hev
       refine hK.out _ _ (H0.out.F.below HB0.out).h.cT (fun _ => ?_)
       clear hK K
       refine rdH (i := 10) (by kernel_rfl) rfl fun K hK => ?_
       refine step_append_own rfl (.tmp 33) (.tmp 39) 45 rfl W8.heap.size 103 i0 (.agg #[.int .u64 0, .int .i64 0]) 2 16 Tryz.underlying45 HI.out HZ.out HZ1.out HZ2.out rfl (by decide) v1 (0 + x.es.length) ([] ++ x.es.flatMap evC) rfl HA.out ⟨W8.heap.size, 0, none⟩ 1 1 [.int .u64 x.ti, .int .i64 cause] rfl rfl (cells2e HV.out) (one2e _ _) HMX1.out HBY1.out HB0.out.size ?_
       intro v2 u2 hown2 hgr2 hnil2 hat2
       have HA2 := Hd hown2
       have HB0 := Hd (Off.toBelow HB0.out (Off.ofGrown (S := fun k => (v1 : Value).ownBlock = some k) hgr2 fun k e => e) (fun k hk e => by have := (World.ownsRow.lt HA.out k e).1; omega) (Nat.le_refl _))
       clear hown2 hgr2 hnil2 hat2
       refine hK.out _ _ (H0.out.F.below HB0.out).h.cT (fun _ => ?_)
       clear hK K
       refine tkH (i := 11) (v := .pointer (some ⟨b, 109, none⟩)) rfl (by kernel_rfl) (fun _ _ _ h => h) (fun w' hSw => by clear hSw; go_simp) (H0.out.F.below HB0.out).h.cT ?_
       try simp only [Act.put, lsA, lsZ, lsS]
       refine rdH (i := 12) (by kernel_rfl) rfl fun K hK => ?_
       have hF9 := H0.out.F.below HB0.out
       have c9 := hF9.h.cE
       have f9 := hF9.h.free 109
       have l9 := hF9.h.lt
       obtain ⟨g9, cap9, rfl⟩ := row_some (HA2.out)
       have HN := Hd (q7_end H0.out HB0.out HA2.out)
       go_simp
       refine hK.out _ _ (hF9.h.setE _).cT (fun _ => ?_)
       clear hK K c9 f9 l9 hF9
       refine wpAnyH_done (by kernel_rfl) ?_ _
       refine HK7.out _ _ ?_
       clear HK7 K7
       obtain ⟨hF, hV⟩ := HN.out
       simp only [Nat.zero_add] at hF hV
       generalize u2.setCell ⟨b, 109, none⟩ (.slice (some ⟨g9, 0, none⟩) (x.es.length + 1) cap9) = u9 at *
       have HF := Hd hF
       have HV9 := Hd hV
       clear hF hV HN
       go_wp2_with (first | (refine nLoadB rfl (.tmp 2) rfl rfl HF.out.h ?_) | (obtain ⟨cz, hz1, hz2⟩ := HF.out.z; refine nStoreB rfl (.tmp 4) (.tmp 42) rfl rfl { x with rs := x.rs.ltc cause, D := nvD, S := zeS, wd := wz, rk := x.rk.zero, msk := 0 } (.slice (some ⟨g4, 0, none⟩) c c) _ n rfl hz1 hz2 HF.out.one ?_; intro u10 hN10 ho10; have HX := Hd (doc_end HF.out HV9.out hN10 ho10); have HN10 := Hd hN10; clear hN10 ho10 hz1 hz2))
       exact bodyPost_ret (resN rfl _ _ rfl HN10.out) rfl HX.out
end Go.Proofs.YtcgmnjajodegmaaGreat.B
