/- Several texts in one: A region that draws its order: its first n operations read, or call what leaves a world of a class; the rest comes behind .. -/
import Derived.Test.YtopkmjiilnoeeaaZAaa
import Derived.Test.YtopkmjiilnoeeaaZAab
import Derived.StillTail
import Derived.Deep.Quiet
import Derived.Lib.QuietBelow
import Derived.Deep.Cut
namespace Go.Proofs.Ytopkmjiilnoeeaa.B
set_option linter.unusedVariables false
set_option linter.unusedSimpArgs false
open Go.RowKit Go.Sort
section
variable {P : Program} {ops : Array Oper} {md : Region.Mode} {C : World → Prop}
def headQ (P : Program) (md : Region.Mode) (ops : Array Oper) (C : World → Prop) (n : Nat) (L : Array Bool → Act → Prop) : Nat → Array Bool → Act → Prop
 | 0, done, a => L done a
 | f + 1, done, a => Region.ready md ops done ≠ [] ∧ ∀ i ∈ Region.ready md ops done, i < n ∧ qOp P ops C i (headQ P md ops C n L f (done.setIfInBounds i true)) a
theorem headQ_sound {n g : Nat} {L : Array Bool → Act → Prop} {Q' : Exit → Act → World → Prop} (hL : ∀ done a w, C w → L done a → wpAny P md ops Q' g done a w) (f : Nat) :
 ∀ (done : Array Bool) (a : Act) (w : World), C w → headQ P md ops C n L f done a → wpAny P md ops Q' (f + g) done a w := by
 induction f with
 | zero => intro done a w hw h; rw [Nat.zero_add]; exact hL _ _ _ hw h
 | succ f ih =>
   intro done a w hw ⟨h1, h2⟩
   rw [show f + 1 + g = (f + g) + 1 by omega]
   exact ⟨fun h0 => absurd h0 h1, fun i hi => wpOp_of_qOp hw (fun a' w' hw' h' => ih _ a' w' hw' h') (h2 i hi).2⟩
theorem headQ_first {n i : Nat} {oi : Oper} {v : Value} {L : Array Bool → Act → Prop} (hi : ops[i]? = some oi) (hsel : ∀ (j : Nat) (o : Oper) cs b, ops[j]? = some o → o.op ≠ .select cs b)
 (hs : Region.sinkB md ops n = true) (hc : Region.chainB md ops n = true) (hn : n < ops.size) (hin : i < n) (hdone : ∀ done a, L done a → ∀ j ∈ Region.ready md ops done, n ≤ j) (f : Nat) :
 ∀ (done : Array Bool) (a : Act), HeadInv md ops n done →
  (∀ j oj, ops[j]? = some oj → j ≠ i → done.getD j true = false → (∀ e ∈ oj.after, Region.binds md e = true → e.on ≠ i) → oi.apart ops oj = true) →
  i ∈ Region.ready md ops done → YieldsIn P ops C oi v a → headQ P md ops C n L f (done.setIfInBounds i true) (a.put oi.dst v) → headQ P md ops C n L (f + 1) done a := by
 have below : ∀ done : Array Bool, HeadInv md ops n done → i ∈ Region.ready md ops done → ∀ j ∈ Region.ready md ops done, j < n := fun done inv hr j hj => by
  rcases Nat.lt_or_ge j n with h | h
  · exact h
  · exact absurd hj (tail_waits hs hc hn inv _ i rfl hin (mem_ready.1 hr).1 j h)
 induction f with
 | zero =>
   intro done a inv _ hr hy H
   refine ⟨fun h => (by rw [h] at hr; cases hr), fun j hj => ⟨below done inv hr j hj, ?_⟩⟩
   by_cases e : j = i
   · subst e; exact hy.qOp hi H
   · have := hdone _ _ H j (ready_mono hj e)
     have := below done inv hr j hj
     omega
 | succ f ih =>
   intro done a inv hfree hr hy H
   have hun := (mem_ready.1 hr).1
   refine ⟨fun h => (by rw [h] at hr; cases hr), fun j hj => ⟨below done inv hr j hj, ?_⟩⟩
   by_cases e : j = i
   · subst e; exact hy.qOp hi H
   · obtain ⟨hjun, oj, hoj, hall⟩ := mem_ready.1 hj
     have hnot : ∀ e ∈ oj.after, Region.binds md e = true → e.on ≠ i := fun e he hb heq => by
      have h1 := hall e he hb
      rw [heq, getD_both hun] at h1
      cases h1
     have hstep := qOp_put hoj (hfree j oj hoj e hjun hnot) (fun cs b => hsel i oi cs b hi) (fun cs b => hsel j oj cs b hoj) hy (H.2 j (ready_mono hj e)).2
     refine qOp_mono (fun a' h3 => ih (done.setIfInBounds j true) a' (inv.set hj (below done inv hr j hj)) ?_ (ready_mono hr (Ne.symm e)) h3.1 ?_) hstep
     · intro k ok hk hki hku hno
       refine hfree k ok hk hki ?_ hno
       by_cases hjk : j = k
       · subst hjk; exact hjun
       · rwa [getD_set_ne true hjk] at hku
     · rw [Array.setIfInBounds_comm _ _ e]; exact h3.2
theorem headQ_lex {n g : Nat} {T : Act → Prop} (hsel : Region.noSelect ops = true) (hs : Region.sinkB md ops n = true) (hc : Region.chainB md ops n = true) (hn : n < ops.size) (l : List Oper) :
 ∀ (k : Nat) (done : Array Bool) (a : Act), (∀ j, j < l.length → l[j]? = ops[k + j]?) → k + l.length = n → HeadInv md ops n done →
  Region.lexHead md ops g l.length k done = true → wpQuiet P ops C T l a → headQ P md ops C n (fun done' a' => Region.seqB md ops g n done' = true ∧ T a') l.length done a := by
 induction l with
 | nil =>
   intro k done a _ hk _ hB h
   obtain rfl : k = n := by simpa using hk
   exact ⟨by simpa [Region.lexHead] using hB, h⟩
 | cons o l ih =>
   intro k done a hl hk inv hB h
   have h0 : ops[k]? = some o := by simpa using (hl 0 (by simp)).symm
   simp only [List.length_cons, Region.lexHead, Bool.and_eq_true] at hB
   obtain ⟨⟨hr, hf⟩, hB'⟩ := hB
   have hkl : k + (l.length + 1) = n := by simpa using hk
   have hr' : k ∈ Region.ready md ops done := by simpa using hr
   have hq : qOp P ops C k (wpQuiet P ops C T l) a := by unfold qOp; simp only [h0]; exact h
   obtain ⟨v, hy, hK⟩ := yieldsIn_of_qOp h0 hq
   refine headQ_first h0 (Region.noSelect_spec hsel) hs hc hn (by omega) (fun done' a' hL => seqB_ready hL.1) l.length done a inv (Region.free_spec h0 hf) hr' hy ?_
   exact ih (k + 1) _ _ (fun j hj => by have := hl (j + 1) (by simpa using hj); simpa [Nat.add_assoc, Nat.add_comm 1 j] using this) (by omega) (inv.set hr' (by omega)) hB' hK
theorem wp_region_quiet_tail {id : Nat} {Q : Exit → Act → World → Prop} {a : Act} {w : World} {l : List Oper} (n : Nat) (hm : P.follows .mixedOrders = true) (hB : Region.lexTailB .any l.toArray n = true)
 (hC : C { w with drawn := w.drawn + 1 }) (h : wpQuiet P l.toArray C (fun a' => ∀ w', C w' → wpList P l.toArray Q (l.drop n) a' w') (l.take n) a) : (Code.region id l.toArray true).wp P Q a w := by
 simp only [Region.lexTailB, Bool.and_eq_true, decide_eq_true_eq] at hB
 obtain ⟨⟨⟨⟨hsel, hn⟩, hs⟩, hc⟩, hlex⟩ := hB
 have hn' : n < l.length := by simpa using hn
 have htl : (l.take n).length = n := by simp; omega
 have hdl : (l.drop n).length = l.toArray.size - n := by simp
 have inv0 : HeadInv .any l.toArray n (Array.replicate l.toArray.size false) :=
  ⟨by simp, fun j oj _ hl => (by rw [getD_replicate_false] at hl; cases hl), fun t _ ht => getD_in (by simpa using ht) (getD_replicate_false _ _)⟩
 have H := headQ_lex (C := C) (md := .any) (g := l.toArray.size - n) hsel hs hc hn (l.take n) 0 _ a (fun j hj => by rw [htl] at hj; simp [hj]) (by simpa using htl) inv0 (by rw [htl]; exact hlex) h
 have key := headQ_sound (Q' := Q) (g := l.toArray.size - n) (fun done a' w' hw' hL => by
  have := wpAny_of_seq (md := .any) (Q' := Q) (l.drop n) n done a' w' (fun j => by simp [List.getElem?_drop]) (by rw [hdl]; exact hL.1) (hL.2 w' hw')
  rwa [hdl] at this) _ _ _ _ hC H
 rw [htl, show n + (l.toArray.size - n) = l.toArray.size by omega] at key
 exact wp_region_any hm key
end
theorem wp_region_tail_below {P : Program} {id : Nat} {Q : Exit → Act → World → Prop} {a : Act} {w : World} {l : List Oper} (n : Nat) (hm : P.follows .mixedOrders = true) (hB : Region.lexTailB .any l.toArray n = true)
 (h : wpQuiet P l.toArray (fun w' => ∃ p : Regrown, w' = grow (redrawn w p.d) p.os) (fun a' => ∀ w', (∃ p : Regrown, w' = grow (redrawn w p.d) p.os) → wpList P l.toArray Q (l.drop n) a' w') (l.take n) a) : (Code.region id l.toArray true).wp P Q a w :=
 wp_region_quiet_tail (C := fun w' => ∃ p : Regrown, w' = grow (redrawn w p.d) p.os) n hm hB ⟨⟨w.drawn + 1, #[]⟩, by rw [grow_empty]; rfl⟩ h
end Go.Proofs.Ytopkmjiilnoeeaa.B
namespace Go.Proofs.Ytopkmjiilnoeeaa.B
set_option linter.unusedVariables false
set_option linter.unusedSimpArgs false
set_option maxRecDepth 100000
open Go.ChangeShapes Go.WideShapes Go.RowKit Go.Sort
def i64r (a : Int) : Prop := -9223372036854775808 ≤ a ∧ a < 9223372036854775808
theorem jFind {w : World} {B : Nat} {v : Value} {L : List (Kp × Int)} (h : TrAt w B v L) (hl : L.length < 5000) (i : Int) : Calls Try.prog 11 #[v, .int .i64 i] w fun e w' => e = .returned (.int .i64 (chIx L i)) ∧ w = w' := by
 obtain ⟨y, cap, rfl, _, _, _⟩ := h.form
 have HH := Lib.hid h
 clear h
 rcases ch_case L i with hno | ⟨p, x, h1, h2, h3⟩
 · rw [chIx_none hno]
   have HN := Lib.hid hno
   clear hno
   obtain ⟨N, hN⟩ : ∃ N, L.length = N := ⟨_, rfl⟩
   rw [hN] at HH ⊢
   have HLN := Lib.hid hN
   have hl2 : N < 5000 := by omega
   clear hN hl
   go_enter Try.func11, Try.ntmps11
   go_wp2_with fail
   go_loopw [5] (fun a wr => ∃ (k : Nat), k ≤ N ∧ a = .int .i64 k ∧ wr = w) (fun a wr => N - (intOf a).toNat)
   case atStart => exact ⟨0, Nat.zero_le _, rfl, rfl⟩
   case round =>
    obtain ⟨k, hk, rfl, rfl⟩ := hrel
    by_cases hlt : k < N
    · obtain ⟨z, hz⟩ : ∃ z, L[k]? = some z := ⟨_, List.getElem?_eq_getElem (by rw [HLN.out]; exact hlt)⟩
      obtain ⟨hnl, n1, n2, g, rfl, hg, c0, c1, c2⟩ := HH.out.cellk hz
      clear hnl
      have hne : (z.2 == i) = false := beq_eq_false_iff_ne.2 (HN.out z (List.mem_of_getElem? hz))
      clear hz
      go_wp2_with fail
      go_roundw
      case rel => exact ⟨k + 1, by omega, by go_num, by first | rfl | trivial⟩
      case measure => simp [intOf]; omega
    · obtain rfl : k = N := by omega
      go_wp2_with fail
      go_ret
      exact ⟨rfl, rfl⟩
 · rw [chIx_at h1 h2 h3]
   have hp : p < L.length := (List.getElem?_eq_some_iff.1 h1).1
   have H1 := Lib.hid h1
   have H3 := Lib.hid h3
   have HX := Lib.hid h2
   clear h1 h2 h3
   obtain ⟨N, hN⟩ : ∃ N, L.length = N := ⟨_, rfl⟩
   rw [hN] at HH hp hl ⊢
   have HLN := Lib.hid hN
   clear hN
   go_enter Try.func11, Try.ntmps11
   go_wp2_with fail
   go_loopw [5] (fun a wr => ∃ (k : Nat), k ≤ p ∧ a = .int .i64 k ∧ wr = w) (fun a wr => N - (intOf a).toNat)
   case atStart => exact ⟨0, Nat.zero_le _, rfl, rfl⟩
   case round =>
    obtain ⟨k, hk, rfl, rfl⟩ := hrel
    have hkN : k < N := by omega
    by_cases hlt : k < p
    · obtain ⟨z, hz⟩ : ∃ z, L[k]? = some z := ⟨_, List.getElem?_eq_getElem (by rw [HLN.out]; exact hkN)⟩
      obtain ⟨hnl, n1, n2, g, rfl, hg, c0, c1, c2⟩ := HH.out.cellk hz
      clear hnl
      have hne : (z.2 == i) = false := beq_eq_false_iff_ne.2 (H3.out k z hlt hz)
      clear hz
      go_wp2_with fail
      go_roundw
      case rel => exact ⟨k + 1, by omega, by go_num, by first | rfl | trivial⟩
      case measure => simp [intOf]; omega
    · obtain rfl : k = p := by omega
      obtain ⟨hnl, n1, n2, g, rfl, hg, c0, c1, c2⟩ := HH.out.cellk H1.out
      clear hnl
      rw [HX.out] at c2
      have hee : (i == i) = true := beq_self_eq_true i
      go_wp2_with fail
      go_ret
      exact ⟨rfl, rfl⟩
set_option maxHeartbeats 1600000 in
theorem jRemove {w : World} {B : Nat} {v : Value} {L : List (Kp × Int)} (h : TrAt w B v L) (hl : L.length < 5000) (i : Int) : Calls Try.prog 12 #[v, .int .i64 i] w fun e w' => ∃ v', e = .returned v' ∧ TrAt w' w.heap.size v' (chRem L i) ∧ Below w.heap.size w w' := by
 obtain ⟨y, cap, rfl, _, _, _⟩ := h.form
 have HH := Lib.hid h
 clear h
 obtain ⟨N, hN⟩ : ∃ N, L.length = N := ⟨_, rfl⟩
 rw [hN] at HH hl ⊢
 have HLN := Lib.hid hN
 clear hN
 go_enter Try.func12, Try.ntmps12
 go_wp2_with fail
 go_loopw [5, 6] (fun u a wr => ∃ (k : Nat), k ≤ N ∧ a = .int .i64 k ∧ Hid (TrAt wr w.heap.size u (chRem (L.take k) i) ∧ Below w.heap.size w wr)) (fun u a wr => N - (intOf a).toNat)
 case atStart => exact ⟨0, Nat.zero_le _, rfl, Lib.hid ⟨by rw [List.take_zero]; exact tr_nil _ _, tr0 w⟩⟩
 case round =>
  obtain ⟨k, hk, rfl, HX⟩ := hrel
  rename_i wr
  by_cases hlt : k < N
  · obtain ⟨z, hz⟩ : ∃ z, L[k]? = some z := ⟨_, List.getElem?_eq_getElem (by rw [HLN.out]; exact hlt)⟩
    have HS := Lib.hid (HH.out.below HX.out.2)
    obtain ⟨hnl, n1, n2, g, rfl, hg, c0, c1, c2⟩ := HS.out.cellk hz
    clear hnl
    by_cases he : z.2 = i
    · have HX2 := Lib.hid (show TrAt wr w.heap.size _ (chRem (L.take (k + 1)) i) ∧ Below w.heap.size w wr from ⟨by rw [chRem_take1 L i hz, if_neg (by simp [he]), List.append_nil]; exact HX.out.1, HX.out.2⟩)
      have hne : (z.2 != i) = false := by simp [he]
      clear hz he HX HS
      go_wp2_with fail
      go_roundw
      case rel => exact ⟨k + 1, by omega, by go_num, HX2⟩
      case measure => simp [intOf]; omega
    · have HN := Lib.hid (show chRem (L.take (k + 1)) i = chRem (L.take k) i ++ [z] by rw [chRem_take1 L i hz, if_pos he])
      have hne : (z.2 != i) = true := by simp [he]
      have hbb := trA (tr0 wr) (oTh z)
      have HU := Lib.hid (HX.out.1.below hbb)
      have HB := Lib.hid (tr HX.out.2 hbb)
      have HY := Lib.hid (blk_new wr (oTh z))
      have HG := Lib.hid (show w.heap.size ≤ (wr.alloc (oTh z)).heap.size from HB.out.size)
      have HL := Lib.hid (show (chRem (L.take k) i).length < 5000 from Nat.lt_of_le_of_lt (Nat.le_trans (List.length_filter_le _ _) (List.length_take_le _ _)) (by omega))
      clear hz he HX HS hbb
      go_wp2_with (first
       | (refine buildTr rfl (.tmp 24) rfl (i := z) rfl ?_)
       | (refine appendTr rfl (.tmp 20) (.tmp 25) rfl rfl HU.out rfl HY.out HL.out HG.out ?_; intro v' w3 h3 ho _; have HX := Lib.hid (show TrAt w3 w.heap.size v' (chRem (L.take (k + 1)) i) ∧ Below w.heap.size w w3 from ⟨by rw [HN.out]; exact h3, Off.toBelow HB.out ho (fun j hj e => by have := (HU.out.block e).1; omega) (Nat.le_refl _)⟩); clear h3 ho))
      go_roundw
      case rel => exact ⟨k + 1, by omega, by go_num, HX⟩
      case measure => simp [intOf]; omega
  · obtain rfl : k = N := by omega
    have HE := Lib.hid (show L.take k = L from by rw [← HLN.out, List.take_length])
    rw [HE.out] at HX
    clear HE
    go_wp2_with fail
    go_ret
    exact ⟨_, rfl, HX.out.1, HX.out.2⟩
def oKp (k : Kp) : Obj := .cells (kl k).toArray tKp (0, 0)
def KeyAt (w : World) (b : Nat) (k : Kp) : Prop := w.heap[b]? = some (oKp k)
theorem KeyAt.c {w : World} {b : Nat} {k : Kp} (h : KeyAt w b k) : b < w.heap.size ∧ w.cell? ⟨b, 0, none⟩ = some (.int .i64 k.1) ∧ w.cell? ⟨b, 1, none⟩ = some (.int .i64 k.2) := ⟨lt_of_block h, by rw [blk_cell h]; rfl, by rw [blk_cell h]; rfl⟩
theorem KeyAt.below {w w' : World} {b : Nat} {k : Kp} (h : KeyAt w b k) (hb : Below w.heap.size w w') : KeyAt w' b k := blk_below hb h (lt_of_block h)
theorem KeyAt.off {S : Nat → Prop} {w w' : World} {b : Nat} {k : Kp} (h : KeyAt w b k) (ho : Off S w w') (hs : ¬ S b) : KeyAt w' b k := ho.at h hs
set_option maxHeartbeats 1600000 in
theorem jAll {w : World} {B : Nat} {v : Value} {L : List (Kp × Int)} (h : TrAt w B v L) (hl : L.length < 5000) (q : Kp) : Calls Try.prog 14 #[v, kv q] w fun e w' => ∃ v', e = .returned v' ∧ IsAt w' (w.heap.size + 1) v' (chAll L q) ∧ Below w.heap.size w w' := by
 obtain ⟨y, cap, rfl, _, _, _⟩ := h.form
 have HH := Lib.hid (h.below (trA (tr0 w) (oKp q)))
 have HB0 := Lib.hid (trA (tr0 w) (oKp q))
 have HK := Lib.hid (show KeyAt (w.alloc (oKp q)) w.heap.size q from blk_new w _)
 have hs0 : w.heap.size + 1 ≤ (w.alloc (oKp q)).heap.size := by simp
 have HS0 := Lib.hid hs0
 clear h hs0
 obtain ⟨N, hN⟩ : ∃ N, L.length = N := ⟨_, rfl⟩
 rw [hN] at HH hl ⊢
 have HLN := Lib.hid hN
 clear hN
 show Calls Try.prog 14 #[_, .agg #[.int .i64 q.1, .int .i64 q.2]] w _
 go_enter Try.func14, Try.ntmps14
 go_upto_region 1 with (fail)
 rw [show Obj.cells #[Value.int .i64 q.1, .int .i64 q.2] 27 (0, 0) = oKp q from rfl]
 generalize w.alloc (oKp q) = W at *
 go_wp2_with fail
 go_loopw [5, 6] (fun u a wr => ∃ (k : Nat), k ≤ N ∧ a = .int .i64 k ∧ Hid (IsAt wr W.heap.size u (chAll (L.take k) q) ∧ Below W.heap.size W wr)) (fun u a wr => N - (intOf a).toNat)
 case atStart => exact ⟨0, Nat.zero_le _, rfl, Lib.hid ⟨by rw [List.take_zero]; exact is_nil _ _, tr0 W⟩⟩
 case round =>
  obtain ⟨k, hk, rfl, HX⟩ := hrel
  rename_i u0 wr
  by_cases hlt : k < N
  · obtain ⟨z, hz⟩ : ∃ z, L[k]? = some z := ⟨_, List.getElem?_eq_getElem (by rw [HLN.out]; exact hlt)⟩
    have HS := Lib.hid (HH.out.below HX.out.2)
    obtain ⟨hnl, n1, n2, g, rfl, hg, c0, c1, c2⟩ := HS.out.cellk hz
    clear hnl
    obtain ⟨hb, d0, d1⟩ := (HK.out.below HX.out.2).c
    have hgc := gcell
    go_upto_region 5 with (fail)
    refine wp_region_quiet_below (by kernel_rfl) (by kernel_rfl) ?_
    repeat (first
     | go_big_quiet_skip
     | (go_big_quiet_want; first
         | (refine qeqKp (.tmp 17) (.tmp 18) _ rfl (k := z.1) (j := q) rfl rfl ?_; go_simp; go_big_quiet_on)
         | (go_big_quiet_op; go_big_quiet_on))
     | (refine wpQuiet_nil ?_))
    intro _ hw'
    obtain ⟨⟨dq, osq⟩, hw''⟩ := hw'
    subst hw''
    have hbw := below_regrown wr dq osq
    have HX2 := Lib.hid (And.intro (HX.out.1.below hbw) (tr HX.out.2 hbw))
    have HS2 := Lib.hid (HS.out.below hbw)
    clear hgc c0 c1 c2 d0 d1 hb hg hbw HX HS
    dsimp only at HX2 HS2 ⊢
    generalize grow (redrawn wr dq) osq = W3 at *
    obtain ⟨hnl, _, _, g2, e2, hg, c0, c1, c2⟩ := HS2.out.cellk hz
    cases e2
    clear hnl
    by_cases he : z.1 = q
    · have HN := Lib.hid (show chAll (L.take (k + 1)) q = chAll (L.take k) q ++ [z.2] by rw [chAll_take1 L q hz, if_pos he])
      rw [decide_eq_true he]
      have hbb := trA (tr0 W3) (oI z.2)
      have HU := Lib.hid (HX2.out.1.below hbb)
      have HB := Lib.hid (tr HX2.out.2 hbb)
      have HY := Lib.hid (blk_new W3 (oI z.2))
      have HG := Lib.hid (show W.heap.size ≤ (W3.alloc (oI z.2)).heap.size from HB.out.size)
      have HL := Lib.hid (show (chAll (L.take k) q).length < 5000 from Nat.lt_of_le_of_lt (Nat.le_trans (chAll_le _ _) (List.length_take_le _ _)) (by omega))
      clear hz he HX2 HS2 hbb
      go_wp2_with (first
       | (refine buildI rfl (.tmp 25) rfl (i := z.2) rfl ?_)
       | (refine appendI rfl (.tmp 20) (.tmp 26) rfl rfl HU.out rfl HY.out HL.out HG.out ?_; intro v' w3 h3 ho _; have HX := Lib.hid (show IsAt w3 W.heap.size v' (chAll (L.take (k + 1)) q) ∧ Below W.heap.size W w3 from ⟨by rw [HN.out]; exact h3, Off.toBelow HB.out ho (fun j hj e => by have := (HU.out.block e).1; omega) (Nat.le_refl _)⟩); clear h3 ho))
      go_roundw
      case rel => exact ⟨k + 1, by omega, by go_num, HX⟩
      case measure => simp [intOf]; omega
    · have HX := Lib.hid (show IsAt W3 W.heap.size _ (chAll (L.take (k + 1)) q) ∧ Below W.heap.size W W3 from ⟨by rw [chAll_take1 L q hz, if_neg he, List.append_nil]; exact HX2.out.1, HX2.out.2⟩)
      rw [decide_eq_false he]
      clear hz he HX2 HS2
      go_wp2_with fail
      go_roundw
      case rel => exact ⟨k + 1, by omega, by go_num, HX⟩
      case measure => simp [intOf]; omega
  · obtain rfl : k = N := by omega
    have HE := Lib.hid (show L.take k = L from by rw [← HLN.out, List.take_length])
    rw [HE.out] at HX
    clear HE
    go_wp2_with fail
    go_ret
    exact ⟨_, rfl, HX.out.1.mono HS0.out, (HB0.out).trans (HX.out.2.mono (by have := HS0.out; omega))⟩
set_option maxHeartbeats 1600000 in
theorem jNext {w : World} {B : Nat} {v : Value} {L : List (Kp × Int)} (h : TrAt w B v L) (hl : L.length < 5000) (i : Int) : Calls Try.prog 46 #[v, .int .i64 i] w fun e w' => e = .returned (.int .i64 (chNext L i)) ∧ Below w.heap.size w w' := by
 have HF := Lib.hid (jFind h hl i)
 obtain ⟨y, cap, rfl, _, _, _⟩ := h.form
 have HH := Lib.hid h
 clear h
 rcases ch_case L i with hno | ⟨p, x, h1, h2, h3⟩
 · rw [chNext_none hno]
   rw [chIx_none hno] at HF
   clear hno
   go_enter Try.func46, Try.ntmps46
   go_wp2_with fail
   refine HF.out.mono ?_
   rintro e w1 ⟨rfl, rfl⟩
   go_wp2_with fail
   go_ret
   exact ⟨rfl, tr0 _⟩
 · rw [chIx_at h1 h2 h3] at HF
   rw [chNext_at h1 h2 h3]
   have hp : p < L.length := (List.getElem?_eq_some_iff.1 h1).1
   have H1 := Lib.hid h1
   clear h1 h2 h3
   obtain ⟨N, hN⟩ : ∃ N, L.length = N := ⟨_, rfl⟩
   rw [hN] at HH HF hp hl ⊢
   have HLN := Lib.hid hN
   clear hN
   go_enter Try.func46, Try.ntmps46
   go_wp2_with fail
   refine HF.out.mono ?_
   rintro e w1 ⟨rfl, rfl⟩
   clear HF
   have hpn : decide ((p : Int) < 0) = false := decide_eq_false (by omega)
   go_wp2_with fail
   go_loopw [6] (fun a wr => ∃ (k : Nat), p + 1 ≤ k ∧ k ≤ N ∧ a = .int .i64 k ∧ Hid (chAll (L.drop (p + 1)) x.1 = chAll (L.drop k) x.1 ∧ Below w.heap.size w wr)) (fun a wr => N - (intOf a).toNat)
   case atStart => exact ⟨p + 1, Nat.le_refl _, by omega, by go_num, Lib.hid ⟨rfl, tr0 w⟩⟩
   case round =>
    obtain ⟨k, hk1, hk, rfl, HX⟩ := hrel
    rename_i wr
    by_cases hlt : k < N
    · obtain ⟨z, hz⟩ : ∃ z, L[k]? = some z := ⟨_, List.getElem?_eq_getElem (by rw [HLN.out]; exact hlt)⟩
      have HS := Lib.hid (HH.out.below HX.out.2)
      obtain ⟨hnl, n1, n2, g, rfl, hg, c0, c1, c2⟩ := HS.out.cellk hz
      obtain ⟨hn2, _, _, g2, e2, _, d0, d1, d2⟩ := HS.out.cellk H1.out
      cases e2
      clear hn2 hnl
      have hgc := gcell
      go_upto_region 6 with (fail)
      refine wp_region_quiet_below (by kernel_rfl) (by kernel_rfl) ?_
      repeat (first
       | go_big_quiet_skip
       | (go_big_quiet_want; first
           | (refine qeqKp (.tmp 24) (.tmp 29) _ rfl (k := z.1) (j := x.1) rfl rfl ?_; go_simp; go_big_quiet_on)
           | (go_big_quiet_op; go_big_quiet_on))
       | (refine wpQuiet_nil ?_))
      intro _ hw'
      obtain ⟨⟨dq, osq⟩, hw''⟩ := hw'
      subst hw''
      have hbw := below_regrown wr dq osq
      have HX2 := Lib.hid (And.intro HX.out.1 (tr HX.out.2 hbw))
      have HS2 := Lib.hid (HS.out.below hbw)
      clear hgc c0 c1 c2 d0 d1 d2 hg hbw HX HS
      dsimp only at HX2 HS2 ⊢
      generalize grow (redrawn wr dq) osq = W3 at *
      obtain ⟨hnl, _, _, g2, e2, hg, c0, c1, c2⟩ := HS2.out.cellk hz
      cases e2
      clear hnl
      by_cases he : z.1 = x.1
      · have HN := Lib.hid (show chFst (chAll (L.drop (p + 1)) x.1) = z.2 by rw [HX2.out.1, chAll_drop1 L x.1 hz, if_pos he]; rfl)
        have HB := Lib.hid HX2.out.2
        rw [decide_eq_true he]
        clear hz he HX2 HS2
        go_wp2_with fail
        go_ret
        exact ⟨by rw [HN.out]; rfl, HB.out⟩
      · have HX := Lib.hid (show chAll (L.drop (p + 1)) x.1 = chAll (L.drop (k + 1)) x.1 ∧ Below w.heap.size w W3 from ⟨by rw [HX2.out.1, chAll_drop1 L x.1 hz, if_neg he, List.nil_append], HX2.out.2⟩)
        rw [decide_eq_false he]
        clear hz he HX2 HS2
        go_wp2_with fail
        go_roundw
        case rel => exact ⟨k + 1, by omega, by omega, by go_num, HX⟩
        case measure => simp [intOf]; omega
    · obtain rfl : k = N := by omega
      have HE := Lib.hid (show chFst (chAll (L.drop (p + 1)) x.1) = -1 by rw [HX.out.1, List.drop_eq_nil_of_le (by rw [HLN.out]; exact Nat.le_refl _)]; rfl)
      go_wp2_with fail
      go_ret
      exact ⟨by rw [HE.out]; rfl, HX.out.2⟩
end Go.Proofs.Ytopkmjiilnoeeaa.B
