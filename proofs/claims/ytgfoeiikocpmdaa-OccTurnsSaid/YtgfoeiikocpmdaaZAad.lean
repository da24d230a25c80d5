/- Several texts in one: Layer 15: rows of pairs (a level, a slot); the document's All. Arrays of integers compared. A region that draws its order: .. -/
import Derived.Test.YtgfoeiikocpmdaaZAaa
import Derived.Test.YtgfoeiikocpmdaaZAac
import Derived.Test.YtgfoeiikocpmdaaZAO
import Derived.Laws.AppendOwn
import Derived.Laws.OwnMore
import Derived.OwnWalk
import Derived.Great.BuildSlice
import Derived.Laws.StructEq
import Derived.ChangeKeysEq
import Derived.StillTail
import Derived.Deep.Quiet
import Derived.Lib.QuietBelow
namespace Go.Proofs.Ytgfoeiikocpmdaa.B
set_option linter.unusedVariables false
set_option linter.unusedSimpArgs false
set_option maxRecDepth 100000
open Go.ChangeShapes Go.WideShapes Go.RowKit Go.Sort
abbrev tPr : TypeId := 45
def pr2 (i : Nat) : List Value := [.int .i64 ((i / 64 : Nat) : Int), .int .i64 ((i % 64 : Nat) : Int)]
def prf (L : List Nat) : List Value := L.flatMap pr2
theorem prf_snoc (L : List Nat) (i : Nat) : prf (L ++ [i]) = prf L ++ pr2 i := by unfold prf; rw [List.flatMap_append]; simp
theorem prf_get (L : List Nat) (k i : Nat) (h : L[k]? = some i) (j : Nat) (hj : j < 2) : (prf L)[k * 2 + j]? = (pr2 i)[j]? := by
 induction L generalizing k with
 | nil => cases h
 | cons a L ih =>
   show (pr2 a ++ prf L)[k * 2 + j]? = _
   cases k with
   | zero =>
     simp at h
     subst h
     rw [List.getElem?_append_left (by show 0 * 2 + j < 2; omega)]
     congr 1
     omega
   | succ k =>
     rw [List.getElem?_append_right (by show 2 ≤ (k + 1) * 2 + j; omega), show (k + 1) * 2 + j - (pr2 a).length = k * 2 + j by show (k + 1) * 2 + j - 2 = _; omega]
     exact ih k (by simpa using h)
theorem infoPr : (Try.prog.info? 45).map (fun i => (i.zero, i.size, i.bytes)) = some (some (.agg #[.int .i64 0, .int .i64 0]), 2, 16) := by kernel_rfl
def PrAt (w : World) (B : Nat) (v : Value) (L : List Nat) : Prop := w.ownsRow B tPr 2 v L.length (prf L)
def oPr (i : Nat) : Obj := .cells (pr2 i).toArray tPr (0, 0)
theorem pr_nil (w : World) (B : Nat) : PrAt w B (.slice none 0 0) [] := World.ownsRow_nil w B tPr 2
section
variable {w w' : World} {B : Nat} {v : Value} {L : List Nat}
theorem PrAt.below (h : PrAt w B v L) (hb : Below w.heap.size w w') : PrAt w' B v L := by
 refine ⟨h.1, ?_⟩
 rcases h.2 with h | ⟨g, cap, cur, h1, h2, h3, h4⟩
 · exact .inl h
 · exact .inr ⟨g, cap, cur, h1, h2, blk_below hb h3 (lt_of_block h3), h4⟩
theorem PrAt.mono {B2 : Nat} (h : PrAt w B v L) (hb : B2 ≤ B) : PrAt w B2 v L := by
 refine ⟨h.1, ?_⟩
 rcases h.2 with h | ⟨g, cap, cur, h1, h2, h3, h4⟩
 · exact .inl h
 · exact .inr ⟨g, cap, cur, h1, Nat.le_trans hb h2, h3, h4⟩
theorem PrAt.form (h : PrAt w B v L) : ∃ y cap, v = .slice y L.length cap ∧ (L.length = 0 ∨ ∃ g, y = some ⟨g, 0, none⟩ ∧ B ≤ g ∧ g < w.heap.size ∧ L.length ≤ cap ∧ cap ≤ maxLen ∧ ∀ k i, L[k]? = some i → ∀ j u, (pr2 i)[j]? = some u → w.cell? ⟨g, k * 2 + j, none⟩ = some u) := by
 obtain ⟨hl, ho⟩ := h
 rcases ho with ⟨h1, h2⟩ | ⟨g, cap, cur, rfl, hB, hg, hkc, hcm, hcs, htk⟩
 · exact ⟨none, 0, by rw [h1, h2], .inl h2⟩
 · refine ⟨_, cap, rfl, .inr ⟨g, rfl, hB, lt_of_block hg, hkc, hcm, fun k i hi j u hu => ?_⟩⟩
   have hk : k < L.length := (List.getElem?_eq_some_iff.1 hi).1
   have hj : j < 2 := by have := (List.getElem?_eq_some_iff.1 hu).1; exact this
   have h3 := prf_get L k i hi j hj
   rw [hu, ← htk, List.getElem?_take, if_pos (by omega)] at h3
   rw [blk_cell hg]
   simpa using h3
theorem PrAt.block (h : PrAt w B v L) {b : Nat} (hb : v.ownBlock = some b) : B ≤ b ∧ b < w.heap.size := by
 obtain ⟨hl, ho⟩ := h
 rcases ho with ⟨rfl, h2⟩ | ⟨g, cap, cur, rfl, hB, hg, hkc, hcm, hcs, htk⟩
 · cases hb
 · cases hb
   exact ⟨hB, lt_of_block hg⟩
end
section
variable {ops : Array Oper} {rest : List Oper} {o : Oper} {a : Act} {w : World} {Q : Exit → Act → World → Prop}
theorem buildPr (hgd : o.guard = none) (x : Operand) (ho : o.op = .buildSlice 39 1 #[(0, x)]) {i : Nat} (hx : a.eval x = .agg (pr2 i).toArray)
 (h : wpList Try.prog ops Q rest (a.put o.dst (.slice (some ⟨w.heap.size, 0, none⟩) 1 1)) (w.alloc (oPr i))) : wpList Try.prog ops Q (o :: rest) a w := by
 obtain ⟨i0, hi, hz0, hz1, hz2⟩ := info_parts infoPr
 refine wpList_buildSlice hgd _ 45 1 #[(0, x)] ho (pr2 i).toArray i0 _ Try.underlying39 hi hz0 (by rw [hz1]; decide) (by rw [hz1]; decide) ?_ h
 rw [hz1]
 simp only [List.map_toArray, List.map_cons, List.map_nil, hx]
 rw [show Array.range (1 * 2) = #[0, 1] by decide]
 simp [Instr.fill, Value.cells, pr2]
theorem appendPr (hgd : o.guard = none) (s x : Operand) (ho : o.op = .call { callee := .builtin .append, args := #[s, x], argTypes := #[39, 39] })
 {B g : Nat} {v : Value} {L : List Nat} {i : Nat} (hs : a.eval s = v) (hO : PrAt w B v L) (hx : a.eval x = .slice (some ⟨g, 0, none⟩) 1 1) (hy : w.heap[g]? = some (oPr i)) (hk : L.length < 1000) (hB : B ≤ w.heap.size)
 (h : ∀ v' w', PrAt w' B v' (L ++ [i]) → Off (fun b => v.ownBlock = some b) w w' → wpList Try.prog ops Q rest (a.put o.dst v') w') : wpList Try.prog ops Q (o :: rest) a w := by
 obtain ⟨i0, hi, hz0, hz1, hz2⟩ := info_parts infoPr
 refine wpList_append_own w hgd s x _ ho B 45 i0 _ 2 16 Try.underlying39 hi hz0 hz1 hz2 rfl (by decide) v L.length (prf L) hs hO ⟨g, 0, none⟩ 1 1 (pr2 i) hx rfl (fun j u hu => ?_) (fun u hu => ?_) (by unfold maxLen; omega) (by omega) hB fun v' w' h3 h4 _ => ?_
 · rw [Addr.add_lit, Nat.zero_add, blk_cell hy, List.getElem?_toArray]
   exact hu
 · simp only [pr2, List.mem_cons, List.not_mem_nil, or_false] at hu
   rcases hu with rfl | rfl <;> rfl
 · refine h v' w' ?_ (Off.ofGrown h4 fun k e => e)
   unfold PrAt
   rw [prf_snoc, List.length_append]
   exact h3
end
structure AlAt (w0 w : World) (m : Nat → Int) (v : Value) (k : Nat) : Prop where
 P : TbAt w w0.heap.size (tb m)
 R : PrAt w (w0.heap.size + 1) v (takenB m k)
 lo : Below w0.heap.size w0 w
 sz : w0.heap.size + 1 ≤ w.heap.size
theorem AlAt.no {w0 w : World} {m : Nat → Int} {v : Value} {k : Nat} (A : AlAt w0 w m v k) (h : tb m k = false) : AlAt w0 w m v (k + 1) := ⟨A.P, by rw [takenB_succ, h]; simpa using A.R, A.lo, A.sz⟩
theorem AlAt.yes {w0 w w1 w2 : World} {m : Nat → Int} {v v' : Value} {k : Nat} (A : AlAt w0 w m v k) (h : tb m k = true) (hb : Below w.heap.size w w1) (ho : Off (fun b => v.ownBlock = some b) w1 w2) (hR : PrAt w2 (w0.heap.size + 1) v' (takenB m k ++ [k])) : AlAt w0 w2 m v' (k + 1) :=
 ⟨ho.at (A.P.below hb) (fun e => by have := (A.R.block e).1; omega), by rw [takenB_succ, h]; exact hR, Off.toBelow (tr A.lo hb) ho (fun j hj e => by have := (A.R.block e).1; omega) (Nat.le_refl _), Nat.le_trans A.sz (Nat.le_trans hb.size ho.size)⟩
set_option maxHeartbeats 3200000 in
theorem dAll (m : Nat → Int) (w : World) : Calls Try.prog 16 #[.agg (tl (tb m)).toArray] w fun e w' => ∃ v, e = .returned v ∧ PrAt w' w.heap.size v (taken m) ∧ Below w.heap.size w w' := by
 go_enter Try.func16, Try.ntmps16
 go_upto_region 1 with (fail)
 rw [show Obj.cells (tl (tb m)).toArray 27 (0, 0) = oT15 (tb m) from rfl]
 have HA := Lib.hid (show AlAt w (w.alloc (oT15 (tb m))) m (.slice none 0 0) 0 from ⟨blk_new w _, pr_nil _ _, trA (tr0 w) _, by simp⟩)
 generalize w.alloc (oT15 (tb m)) = W at *
 go_wp2_with fail
 go_loopw [3, 4] (fun v i wr => ∃ (k : Nat), k ≤ 8 ∧ i = .int .i64 k ∧ Hid (AlAt w wr m v (k * 64))) (fun v i wr => 8 - (intOf i).toNat)
 case atStart => exact ⟨0, by omega, rfl, HA⟩
 case round =>
  clear HA
  obtain ⟨k, hk, rfl, HA⟩ := hrel
  by_cases hlt : k < 8
  · have e8 : decide ((k : Int) < 8) = true := decide_eq_true (by omega)
    go_wp2_with fail
    go_loopw [3, 5] (fun v i wr => ∃ (s : Nat), s ≤ 64 ∧ i = .int .i64 s ∧ Hid (AlAt w wr m v (k * 64 + s))) (fun v i wr => 64 - (intOf i).toNat)
    case atStart => exact ⟨0, by omega, rfl, HA⟩
    case round =>
     clear HA
     rename_i v0 _
     obtain ⟨s, hs, rfl, HA⟩ := hrel
     by_cases hst : s < 64
     · have c := HA.out.P.c (k * 64 + s) (by omega)
       have hl := HA.out.P.lt
       cases hb : tb m (k * 64 + s)
       · rw [hb] at c
         have HN := Lib.hid (HA.out.no hb)
         clear hb
         go_wp2_with fail
         go_roundw
         case rel => exact ⟨s + 1, by omega, by go_num, HN⟩
         case measure => simp [intOf]; omega
       · rw [hb] at c
         have HB := Lib.hid hb
         have HL := Lib.hid (Nat.lt_of_le_of_lt (takenB_len m (k * 64 + s)) (show k * 64 + s < 1000 by omega))
         clear hb
         go_upto_region 9 with (fail)
         clear c hl
         have HE := Lib.hid (show Value.agg #[.int .i64 (k : Int), .int .i64 (s : Int)] = .agg (pr2 (k * 64 + s)).toArray by unfold pr2; rw [show (k * 64 + s) / 64 = k by omega, show (k * 64 + s) % 64 = s by omega])
         go_wp2_with (first
          | (refine buildPr rfl (.tmp 22) rfl HE.out ?_; have HY := Lib.hid (blk_new wr (oPr (k * 64 + s))); have HBB := Lib.hid (trA (tr0 wr) (oPr (k * 64 + s))); have HR := Lib.hid (HA.out.R.below HBB.out); have HZ := Lib.hid (Nat.le_trans HA.out.sz HBB.out.size))
          | (refine appendPr rfl (.tmp 19) (.tmp 23) rfl rfl HR.out rfl HY.out HL.out HZ.out ?_; intro v' w3 h3 ho; have HN := Lib.hid (HA.out.yes HB.out HBB.out ho h3); clear h3 ho))
         go_wp2_with fail
         go_roundw
         case rel => exact ⟨s + 1, by omega, by go_num, HN⟩
         case measure => simp [intOf]; omega
     · obtain rfl : s = 64 := by omega
       go_wp2_with fail
       go_roundw
       case rel => exact ⟨k + 1, by omega, by go_num, (by rw [show (k + 1) * 64 = k * 64 + 64 by omega]; exact HA)⟩
       case measure => simp [intOf]; omega
  · obtain rfl : k = 8 := by omega
    go_wp2_with fail
    go_ret
    exact ⟨_, rfl, HA.out.R.mono (Nat.le_succ _), HA.out.lo⟩
end Go.Proofs.Ytgfoeiikocpmdaa.B
namespace Go.Proofs.Ytgfoeiikocpmdaa.B
set_option linter.unusedVariables false
set_option linter.unusedSimpArgs false
open Go.ChangeShapes Go.WideShapes Go.RowKit
def eqs (xs ys : List Int) : Bool := xs == ys
theorem eqItems_ints {P : Program} (d : Nat) (e : TypeId) (k : IntKind) (he : P.underlying e = some (.int k)) (xs ys : List Int) (w : World) : ∀ is : List Nat, (∀ i ∈ is, i < xs.length ∧ i < ys.length) →
 (Op.eqItems (d + 1) e 1 (xs.map (Value.int k)).toArray (ys.map (Value.int k)).toArray is).run P w = .ok (is.all fun i => xs.getD i 0 == ys.getD i 0) w := by
 intro is
 induction is with
 | nil => intro _; simp [Op.eqItems]
 | cons i is ih =>
   intro h
   obtain ⟨hx, hy⟩ := h i (by simp)
   have px : (part e (xs.map (Value.int k)).toArray (i * 1)).run P w = .ok (.int k (xs.getD i 0)) w := by
    simp [part, isAgg, run_underlying he, List.getD, List.getElem?_eq_getElem hx]
   have py : (part e (ys.map (Value.int k)).toArray (i * 1)).run P w = .ok (.int k (ys.getD i 0)) w := by
    simp [part, isAgg, run_underlying he, List.getD, List.getElem?_eq_getElem hy]
   simp only [Op.eqItems, Sem.run_bind, px, py, run_equalIn_int w d e k k _ _ he, Result.andThen_ok, List.all_cons]
   cases hb : (xs.getD i 0 == ys.getD i 0)
   · simp
   · simp only [Bool.not_true, Bool.false_eq_true, if_false, Bool.true_and]
     exact ih fun j hj => h j (by simp [hj])
theorem all_range (xs ys : List Int) (h : xs.length = ys.length) : ((List.range xs.length).all fun i => xs.getD i 0 == ys.getD i 0) = eqs xs ys := by
 unfold eqs
 rw [Bool.eq_iff_iff, List.all_eq_true, beq_iff_eq]
 constructor
 · intro hh
   apply List.ext_getElem h
   intro i h1 h2
   have := hh i (by simp [h1])
   simpa [List.getD, List.getElem?_eq_getElem h1, List.getElem?_eq_getElem h2] using this
 · rintro rfl i _; simp
end Go.Proofs.Ytgfoeiikocpmdaa.B
namespace Go.Proofs.Ytgfoeiikocpmdaa.B
set_option linter.unusedVariables false
set_option linter.unusedSimpArgs false
open Go.RowKit Go.Sort
section
variable {P : Program} {ops : Array Oper} {md : Region.Mode} {C : World → Prop}
def headQ (P : Program) (md : Region.Mode) (ops : Array Oper) (C : World → Prop) (n : Nat) (L : Array Bool → Act → Prop) : Nat → Array Bool → Act → Prop
 | 0, done, a => L done a
 | f + 1, done, a => Region.ready md ops done ≠ [] ∧ ∀ i ∈ Region.ready md ops done, i < n ∧ qOp P ops C i (headQ P md ops C n L f (done.setIfInBounds i true)) a
theorem headQ_sound {n g : Nat} {L : Array Bool → Act → Prop} {Q' : Exit → Act → World → Prop} (hL : ∀ done a w, C w → L done a → wpAny P md ops Q' g done a w) (f : Nat) :
 ∀ (done : Array Bool) (a : Act) (w : World), C w → headQ P md ops C n L f done a → wpAny P md ops Q' (f + g) done a w := by
 induction f with
 | zero => intro done a w hw h; rw [Nat.zero_add]; exact hL _ _ _ hw h
 | succ f ih =>
   intro done a w hw ⟨h1, h2⟩
   rw [show f + 1 + g = (f + g) + 1 by omega]
   exact ⟨fun h0 => absurd h0 h1, fun i hi => wpOp_of_qOp hw (fun a' w' hw' h' => ih _ a' w' hw' h') (h2 i hi).2⟩
theorem headQ_first {n i : Nat} {oi : Oper} {v : Value} {L : Array Bool → Act → Prop} (hi : ops[i]? = some oi) (hsel : ∀ (j : Nat) (o : Oper) cs b, ops[j]? = some o → o.op ≠ .select cs b)
 (hs : Region.sinkB md ops n = true) (hc : Region.chainB md ops n = true) (hn : n < ops.size) (hin : i < n) (hdone : ∀ done a, L done a → ∀ j ∈ Region.ready md ops done, n ≤ j) (f : Nat) :
 ∀ (done : Array Bool) (a : Act), HeadInv md ops n done →
  (∀ j oj, ops[j]? = some oj → j ≠ i → done.getD j true = false → (∀ e ∈ oj.after, Region.binds md e = true → e.on ≠ i) → oi.apart ops oj = true) →
  i ∈ Region.ready md ops done → YieldsIn P ops C oi v a → headQ P md ops C n L f (done.setIfInBounds i true) (a.put oi.dst v) → headQ P md ops C n L (f + 1) done a := by
 have below : ∀ done : Array Bool, HeadInv md ops n done → i ∈ Region.ready md ops done → ∀ j ∈ Region.ready md ops done, j < n := fun done inv hr j hj => by
  rcases Nat.lt_or_ge j n with h | h
  · exact h
  · exact absurd hj (tail_waits hs hc hn inv _ i rfl hin (mem_ready.1 hr).1 j h)
 induction f with
 | zero =>
   intro done a inv _ hr hy H
   refine ⟨fun h => (by rw [h] at hr; cases hr), fun j hj => ⟨below done inv hr j hj, ?_⟩⟩
   by_cases e : j = i
   · subst e; exact hy.qOp hi H
   · have := hdone _ _ H j (ready_mono hj e)
     have := below done inv hr j hj
     omega
 | succ f ih =>
   intro done a inv hfree hr hy H
   have hun := (mem_ready.1 hr).1
   refine ⟨fun h => (by rw [h] at hr; cases hr), fun j hj => ⟨below done inv hr j hj, ?_⟩⟩
   by_cases e : j = i
   · subst e; exact hy.qOp hi H
   · obtain ⟨hjun, oj, hoj, hall⟩ := mem_ready.1 hj
     have hnot : ∀ e ∈ oj.after, Region.binds md e = true → e.on ≠ i := fun e he hb heq => by
      have h1 := hall e he hb
      rw [heq, getD_both hun] at h1
      cases h1
     have hstep := qOp_put hoj (hfree j oj hoj e hjun hnot) (fun cs b => hsel i oi cs b hi) (fun cs b => hsel j oj cs b hoj) hy (H.2 j (ready_mono hj e)).2
     refine qOp_mono (fun a' h3 => ih (done.setIfInBounds j true) a' (inv.set hj (below done inv hr j hj)) ?_ (ready_mono hr (Ne.symm e)) h3.1 ?_) hstep
     · intro k ok hk hki hku hno
       refine hfree k ok hk hki ?_ hno
       by_cases hjk : j = k
       · subst hjk; exact hjun
       · rwa [getD_set_ne true hjk] at hku
     · rw [Array.setIfInBounds_comm _ _ e]; exact h3.2
theorem headQ_lex {n g : Nat} {T : Act → Prop} (hsel : Region.noSelect ops = true) (hs : Region.sinkB md ops n = true) (hc : Region.chainB md ops n = true) (hn : n < ops.size) (l : List Oper) :
 ∀ (k : Nat) (done : Array Bool) (a : Act), (∀ j, j < l.length → l[j]? = ops[k + j]?) → k + l.length = n → HeadInv md ops n done →
  Region.lexHead md ops g l.length k done = true → wpQuiet P ops C T l a → headQ P md ops C n (fun done' a' => Region.seqB md ops g n done' = true ∧ T a') l.length done a := by
 induction l with
 | nil =>
   intro k done a _ hk _ hB h
   obtain rfl : k = n := by simpa using hk
   exact ⟨by simpa [Region.lexHead] using hB, h⟩
 | cons o l ih =>
   intro k done a hl hk inv hB h
   have h0 : ops[k]? = some o := by simpa using (hl 0 (by simp)).symm
   simp only [List.length_cons, Region.lexHead, Bool.and_eq_true] at hB
   obtain ⟨⟨hr, hf⟩, hB'⟩ := hB
   have hkl : k + (l.length + 1) = n := by simpa using hk
   have hr' : k ∈ Region.ready md ops done := by simpa using hr
   have hq : qOp P ops C k (wpQuiet P ops C T l) a := by unfold qOp; simp only [h0]; exact h
   obtain ⟨v, hy, hK⟩ := yieldsIn_of_qOp h0 hq
   refine headQ_first h0 (Region.noSelect_spec hsel) hs hc hn (by omega) (fun done' a' hL => seqB_ready hL.1) l.length done a inv (Region.free_spec h0 hf) hr' hy ?_
   exact ih (k + 1) _ _ (fun j hj => by have := hl (j + 1) (by simpa using hj); simpa [Nat.add_assoc, Nat.add_comm 1 j] using this) (by omega) (inv.set hr' (by omega)) hB' hK
theorem wp_region_quiet_tail {id : Nat} {Q : Exit → Act → World → Prop} {a : Act} {w : World} {l : List Oper} (n : Nat) (hm : P.follows .mixedOrders = true) (hB : Region.lexTailB .any l.toArray n = true)
 (hC : C { w with drawn := w.drawn + 1 }) (h : wpQuiet P l.toArray C (fun a' => ∀ w', C w' → wpList P l.toArray Q (l.drop n) a' w') (l.take n) a) : (Code.region id l.toArray true).wp P Q a w := by
 simp only [Region.lexTailB, Bool.and_eq_true, decide_eq_true_eq] at hB
 obtain ⟨⟨⟨⟨hsel, hn⟩, hs⟩, hc⟩, hlex⟩ := hB
 have hn' : n < l.length := by simpa using hn
 have htl : (l.take n).length = n := by simp; omega
 have hdl : (l.drop n).length = l.toArray.size - n := by simp
 have inv0 : HeadInv .any l.toArray n (Array.replicate l.toArray.size false) :=
  ⟨by simp, fun j oj _ hl => (by rw [getD_replicate_false] at hl; cases hl), fun t _ ht => getD_in (by simpa using ht) (getD_replicate_false _ _)⟩
 have H := headQ_lex (C := C) (md := .any) (g := l.toArray.size - n) hsel hs hc hn (l.take n) 0 _ a (fun j hj => by rw [htl] at hj; simp [hj]) (by simpa using htl) inv0 (by rw [htl]; exact hlex) h
 have key := headQ_sound (Q' := Q) (g := l.toArray.size - n) (fun done a' w' hw' hL => by
  have := wpAny_of_seq (md := .any) (Q' := Q) (l.drop n) n done a' w' (fun j => by simp [List.getElem?_drop]) (by rw [hdl]; exact hL.1) (hL.2 w' hw')
  rwa [hdl] at this) _ _ _ _ hC H
 rw [htl, show n + (l.toArray.size - n) = l.toArray.size by omega] at key
 exact wp_region_any hm key
end
theorem wp_region_tail_below {P : Program} {id : Nat} {Q : Exit → Act → World → Prop} {a : Act} {w : World} {l : List Oper} (n : Nat) (hm : P.follows .mixedOrders = true) (hB : Region.lexTailB .any l.toArray n = true)
 (h : wpQuiet P l.toArray (fun w' => ∃ p : Regrown, w' = grow (redrawn w p.d) p.os) (fun a' => ∀ w', (∃ p : Regrown, w' = grow (redrawn w p.d) p.os) → wpList P l.toArray Q (l.drop n) a' w') (l.take n) a) : (Code.region id l.toArray true).wp P Q a w :=
 wp_region_quiet_tail (C := fun w' => ∃ p : Regrown, w' = grow (redrawn w p.d) p.os) n hm hB ⟨⟨w.drawn + 1, #[]⟩, by rw [grow_empty]; rfl⟩ h
end Go.Proofs.Ytgfoeiikocpmdaa.B
namespace Go.Proofs.Ytgfoeiikocpmdaa.B
set_option linter.unusedVariables false
set_option linter.unusedSimpArgs false
set_option maxRecDepth 100000
open Go.ChangeShapes Go.WideShapes Go.RowKit Go.Sort
def mlow (m : Nat → Int) : Int × Int := match taken m with
 | [] => (-1, -1)
 | i :: _ => (((i / 64 : Nat) : Int), ((i % 64 : Nat) : Int))
def i64r (a : Int) : Prop := -9223372036854775808 ≤ a ∧ a < 9223372036854775808
theorem mnext_at (m : Nat → Int) (k : Nat) (f : Int) (hk : k < 8) : mnext m k f = first (m k) f := by
 unfold mnext
 rw [if_pos (by omega), Int.toNat_natCast]
theorem mhas_at (m : Nat → Int) (k s : Nat) (hk : k < 8) (hs : s < 64) : mhas m k s = bit (m k) s := by
 unfold mhas inS
 rw [decide_eq_true (by omega), Bool.true_and, Int.toNat_natCast, Int.toNat_natCast]
def RowM (w : World) (y : Option Addr) (len cap : Nat) (zs : Nat → Nat → Int) : Prop := (∀ k, okM (zs k)) ∧ (len = 0 ∨ ∃ g off, y = some ⟨g, off, none⟩ ∧ len ≤ cap ∧ cap ≤ maxLen ∧ g < w.heap.size ∧ ∀ k, k < len → ∀ j, j < 8 → w.cell? ⟨g, off + (k * 8 + j), none⟩ = some (.int .u64 (zs k j)))
def anyB (f : Nat → Bool) : Nat → Bool
 | 0 => false
 | k + 1 => anyB f k || f k
structure OccC : Prop where
 set : ∀ m l s w, okM m → i64r l → i64r s → Calls Try.prog 7 #[.agg (ol m).toArray, .int .i64 l, .int .i64 s] w fun e w' => e = .returned (.agg (ol (mput m l s true)).toArray) ∧ Below w.heap.size w w'
 drop : ∀ m l s w, okM m → i64r l → i64r s → Calls Try.prog 8 #[.agg (ol m).toArray, .int .i64 l, .int .i64 s] w fun e w' => e = .returned (.agg (ol (mput m l s false)).toArray) ∧ Below w.heap.size w w'
 has : ∀ m l s w, okM m → i64r l → i64r s → Calls Try.prog 13 #[.agg (ol m).toArray, .int .i64 l, .int .i64 s] w fun e w' => e = .returned (.bool (mhas m l s)) ∧ Below w.heap.size w w'
 next : ∀ m l f w, okM m → i64r l → i64r f → Calls Try.prog 14 #[.agg (ol m).toArray, .int .i64 l, .int .i64 f] w fun e w' => e = .returned (.int .i64 (mnext m l f)) ∧ Below w.heap.size w w'
 low : ∀ m w, okM m → Calls Try.prog 18 #[.agg (ol m).toArray] w fun e w' => e = .returned (.tuple #[.int .i64 (mlow m).1, .int .i64 (mlow m).2]) ∧ Below w.heap.size w w'
 count : ∀ m w, okM m → Calls Try.prog 19 #[.agg (ol m).toArray] w fun e w' => e = .returned (.int .i64 (taken m).length) ∧ Below w.heap.size w w'
 all : ∀ m w, okM m → Calls Try.prog 17 #[.agg (ol m).toArray] w fun e w' => ∃ v, e = .returned v ∧ PrAt w' w.heap.size v (taken m) ∧ Below w.heap.size w w'
 or : ∀ y len cap zs w, RowM w y len cap zs → len ≤ 5 → Calls Try.prog 20 #[.slice y len cap] w fun e w' => ∃ M, e = .returned (.agg (ol M).toArray) ∧ okM M ∧ (∀ l s, l < 8 → s < 64 → bit (M l) s = anyB (fun k => bit (zs k l) s) len) ∧ Below w.heap.size w w'
def mz : Nat → Int := fun _ => 0
theorem mz_ok : okM mz := fun i => ⟨Int.le_refl _, by show (0 : Int) < 18446744073709551616; decide⟩
def mk1 : Nat → Int := mput mz 2 5 true
def mk2 : Nat → Int := mput mk1 1 63 true
theorem mk2_low : mlow mk2 = (1, 63) := by decide +kernel
theorem mk2_count : (taken mk2).length = 2 := by decide +kernel
theorem mk2_next : mnext mk2 2 6 = -1 := by decide +kernel
theorem eqOM (a : Nat → Int) (w : World) : (Op.equalIn 10000 24 (.agg (ol a).toArray) (.agg (ol a).toArray)).run Try.prog w = .ok true w := by
 have hi : (Try.prog.info? 22).isSome = true := by kernel_rfl
 obtain ⟨i, hi⟩ := Option.isSome_iff_exists.1 hi
 have hc : Try.prog.cellsOf 22 = 1 := by kernel_rfl
 have h := run_equalIn_array w 9999 (i := i) (ol a).toArray (ol a).toArray Try.underlying24 hi
 rw [hc] at h
 have e : (((List.range 8).map a).map (Value.int .u64)).toArray = (ol a).toArray := by unfold ol il; rw [List.map_map]; rfl
 have g := eqItems_ints 9998 22 .u64 Try.underlying22 ((List.range 8).map a) ((List.range 8).map a) w (List.range 8) (by intro i hi; simpa using hi)
 rw [e] at g
 have r := all_range ((List.range 8).map a) ((List.range 8).map a) rfl
 rw [List.length_map, List.length_range, show eqs ((List.range 8).map a) ((List.range 8).map a) = true by unfold eqs; exact beq_self_eq_true _] at r
 exact (h.trans g).trans (congrArg (fun b => Result.ok b w) r)
theorem qeqOM {C : World → Prop} {o : Oper} {a : Act} {K : Act → Prop} (x y : Operand) (u : TypeId) (ho : o.op = .binOp .eql 24 x y u) {m : Nat → Int} (hx : a.eval x = .agg (ol m).toArray) (hy : a.eval y = .agg (ol m).toArray)
 (h : K (a.put o.dst (.bool true))) : o.quiet Try.prog a C K :=
 ⟨_, fun w hw => by
  have hg : (eqGuard .eql 24 x y (.agg (ol m).toArray) (.agg (ol m).toArray)).run Try.prog w = .ok () w := by
   have e : Try.prog.eqGuardType Try.prog.depth 24 = false := by kernel_rfl
   simp [eqGuard, Sem.run_bind, run_program, e]
  have hb : (binOp .eql 24 (.agg (ol m).toArray) (.agg (ol m).toArray)).run Try.prog w = .ok (.bool true) w := by
   have e := eqOM m w
   simp only [binOp, Op.equal, Sem.run_bind, Op.maxDepth]
   rw [e]
   rfl
  unfold Oper.quietAt execOp
  simp only [ho, hx, hy, Sem.run_bind, hg, hb, Result.andThen_ok]
  exact ⟨rfl, rfl⟩, h⟩
theorem buildOM (w : World) : (Instr.build 24 #[]).run Try.prog w = .ok (.agg (ol mz).toArray) w := by kernel_rfl
set_option maxHeartbeats 1600000 in
theorem ocKnown (H : OccC) (w : World) : Calls Try.prog 10 #[] w fun e w' => e = .returned (.bool true) ∧ Below w.heap.size w w' := by
 have hb0 := buildOM
 have r2 : i64r 2 := by unfold i64r; decide
 have r5 : i64r 5 := by unfold i64r; decide
 have r1 : i64r 1 := by unfold i64r; decide
 have r63 : i64r 63 := by unfold i64r; decide
 have r6 : i64r 6 := by unfold i64r; decide
 have S1 := Lib.hid (fun w => show Calls _ _ _ w _ from H.set mz 2 5 w mz_ok r2 r5)
 have S2 := Lib.hid (fun w => show Calls _ _ _ w _ from H.set mk1 1 63 w (mput_ok mz_ok _ _ _) r1 r63)
 have K2 : okM mk2 := mput_ok (mput_ok mz_ok _ _ _) _ _ _
 have CL := Lib.hid (fun w => H.low mk2 w K2)
 have CC := Lib.hid (fun w => H.count mk2 w K2)
 have CN := Lib.hid (fun w => H.next mk2 2 6 w K2 r2 r6)
 rw [mk2_low] at CL
 rw [mk2_count] at CC
 rw [mk2_next] at CN
 rw [show mput mz 2 5 true = mk1 from rfl] at S1
 rw [show mput mk1 1 63 true = mk2 from rfl] at S2
 clear r1 r2 r5 r6 r63 K2 H
 generalize mk2 = M2 at *
 generalize mk1 = M1 at *
 go_enter Try.func10, Try.ntmps10
 go_upto_region 2 with (first
  | (go_at_call 7; refine (S1.out _).mono ?_; rintro e w1 ⟨rfl, hb⟩; have HB := Lib.hid hb; clear hb S1)
  | (go_at_call 7; refine (S2.out _).mono ?_; rintro e w2 ⟨rfl, hb⟩; have HB := Lib.hid (tr HB.out hb); clear hb S2)
  | (rw [zeros8]; refine stOM rfl (.tmp 1) (.tmp 6) rfl rfl rfl (show OAt tOM (w2.alloc (oO tOM fun _ => 0)) w2.heap.size (fun _ => 0) from blk_new w2 _) ?_; intro W h3 ho; have HM := Lib.hid h3; have HB := Lib.hid (Off.toBelow (trA HB.out (oO tOM fun _ => 0)) ho (fun j hj e => by have := HB.out.size; omega) (Nat.le_refl _)); clear h3 ho))
 generalize w2.heap.size = b at *
 go_wp2_with (first
  | (refine ldOM rfl (.tmp 1) rfl rfl HM.out ?_)
  | (refine ldOMg (.tmp 1) rfl (by kernel_rfl) rfl HM.out ?_)
  | (go_at_call 18; refine (CL.out _).mono ?_; rintro e w3 ⟨rfl, hb⟩; have HM := Lib.hid (HM.out.below hb); have HB := Lib.hid (tr HB.out hb); clear hb)
  | (go_at_call 19; refine (CC.out _).mono ?_; rintro e w4 ⟨rfl, hb⟩; have HM := Lib.hid (HM.out.below hb); have HB := Lib.hid (tr HB.out hb); clear hb)
  | (go_at_call 14; refine (CN.out _).mono ?_; rintro e w5 ⟨rfl, hb⟩; have HM := Lib.hid (HM.out.below hb); have HB := Lib.hid (tr HB.out hb); clear hb))
 go_ret
 exact ⟨rfl, HB.out⟩
end Go.Proofs.Ytgfoeiikocpmdaa.B
