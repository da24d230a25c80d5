/- A region that draws its order: its first n operations read (or call what leaves a world of a class); the rest comes behind all of them, some of it .. -/
import Derived.Test.YtpojmmgokgamgaaGreatZVab
set_option linter.unusedVariables false
set_option linter.unusedSimpArgs false
namespace Go.Proofs.YtpojmmgokgamgaaGreat.B
open Go.RowKit Go.Sort
def treeB (md : Region.Mode) (ops : Array Oper) (n : Nat) : Bool :=
 (List.range ops.size).all fun t => decide (t <= n) || (List.range t).any fun j => decide (n <= j) && Region.waitsFor md ops t j
def pureB (ops : Array Oper) (k : Nat) : Bool :=
 match ops[k]? with
 | some o => o.guard.isNone && (match o.op with | .move _ | .assign _ | .extract _ _ => true | _ => false)
 | none => false
def mixB (md : Region.Mode) (ops : Array Oper) : Nat -> Nat -> Array Bool -> Bool
 | 0, _, done => (Region.ready md ops done).isEmpty
 | g + 1, k, done => (decide (Region.ready md ops done = [k]) || ((Region.ready md ops done).contains k && Region.free md ops done k && pureB ops k)) && mixB md ops g (k + 1) (done.setIfInBounds k true)
def lexMix (md : Region.Mode) (ops : Array Oper) (g : Nat) : Nat -> Nat -> Array Bool -> Bool
 | 0, k, done => (Region.ready md ops done).all (fun j => decide (k <= j)) && mixB md ops g k done
 | f + 1, k, done => (Region.ready md ops done).contains k && Region.free md ops done k && lexMix md ops g f (k + 1) (done.setIfInBounds k true)
def lexMixB (md : Region.Mode) (ops : Array Oper) (n : Nat) : Bool :=
 Region.noSelect ops && decide (n < ops.size) && Region.sinkB md ops n && treeB md ops n && lexMix md ops (ops.size - n) n 0 (Array.replicate ops.size false)
section
variable {P : Program} {ops : Array Oper} {md : Region.Mode} {C : World -> Prop}
theorem tree_waits {n : Nat} {listed : Array Bool} (hs : Region.sinkB md ops n = true) (hc : treeB md ops n = true) (hn : n < ops.size) (inv : HeadInv md ops n listed) :
 ∀ (d i : Nat), n - i = d -> i < n -> listed.getD i true = false -> ∀ t, n <= t -> t ∉ Region.ready md ops listed := by
 intro d
 induction d using Nat.strongRecOn with
 | _ d ih =>
   intro i hd hi hun t ht hr
   obtain ⟨_, ot, hot, hall⟩ := mem_ready.1 hr
   have htlt : t < ops.size := (Array.getElem?_eq_some_iff.1 hot).1
   by_cases htn : t = n
   . subst htn
     have h1 := List.all_eq_true.1 hs i (List.mem_range.2 hi)
     obtain ⟨j, hj, hj2⟩ := List.any_eq_true.1 h1
     simp only [Bool.and_eq_true, decide_eq_true_eq] at hj2
     obtain ⟨oj, hoj, e, he, hb, hon⟩ := Region.waitsFor_spec hj2.2
     have hjle : j <= t := by have := List.mem_range.1 hj; omega
     by_cases hjt : j = t
     . subst hjt
       have : oj = ot := Option.some.inj (hoj.symm.trans hot)
       subst this
       have h2 := hall e he hb
       rw [hon, getD_both hun] at h2
       cases h2
     . cases hl : listed.getD j false with
       | true =>
         have h2 := inv.closed j oj hoj hl e he hb
         rw [hon, getD_both hun] at h2
         cases h2
       | false =>
         have hjs : j < listed.size := by rw [inv.size]; omega
         exact ih (t - j) (by omega) j rfl (by omega) (getD_in hjs hl) t (Nat.le_refl _) hr
   . have h1 := List.all_eq_true.1 hc t (List.mem_range.2 htlt)
     simp only [Bool.or_eq_true, decide_eq_true_eq] at h1
     rcases h1 with h1 | h1
     . omega
     . obtain ⟨j, hj, hj2⟩ := List.any_eq_true.1 h1
       simp only [Bool.and_eq_true, decide_eq_true_eq] at hj2
       have hjt := List.mem_range.1 hj
       obtain ⟨o', ho', e, he, hb, hon⟩ := Region.waitsFor_spec hj2.2
       have : o' = ot := Option.some.inj (ho'.symm.trans hot)
       subst this
       have h2 := hall e he hb
       rw [hon, getD_both (inv.tail j hj2.1 (by omega))] at h2
       cases h2
theorem runT_pure' {α : Type} (x : α) (w : World) : ((pure x : Sem α).runT P w #[]).2 = #[] := rfl
theorem pure_yields {Q : Exit -> Act -> World -> Prop} {k : Nat} {o : Oper} {rest : List Oper} {a : Act} {w : World} (ho : ops[k]? = some o) (hp : pureB ops k = true) (h : wpList P ops Q (o :: rest) a w) (hQ : ∀ c a d v w, Q (.panic c) (Act.put a d v) w -> Q (.panic c) a w) :
 ∃ v, Yields P ops o v a /\ wpList P ops Q rest (a.put o.dst v) w := by
 unfold pureB at hp
 simp only [ho, Bool.and_eq_true] at hp
 obtain ⟨hg, hp⟩ := hp
 have hw : Region.wanted o (yielded ops a.tmps) = true := by
  have : o.guard = none := by simpa using hg
  simp [Region.wanted, this]
 unfold wpList at h
 rw [if_pos hw] at h
 split at hp
 . rename_i x hx
   have hr : ∀ w, (execOp a.eval o).run P w = .ok (.value (a.eval x)) w := BigFrame.run_move x hx
   rcases h with h | ⟨h, _⟩
   . unfold Oper.wp at h
     rw [hr w] at h
     exact ⟨_, .inl ⟨hw, hr⟩, h⟩
   . have := h.1
     unfold execOp at this
     rw [hx] at this
     simp only [runT_pure'] at this
     simp at this
 . rename_i x hx
   have hr : ∀ w, (execOp a.eval o).run P w = .ok (.value (a.eval x)) w := BigFrame.run_assign x hx
   rcases h with h | ⟨h, _⟩
   . unfold Oper.wp at h
     rw [hr w] at h
     exact ⟨_, .inl ⟨hw, hr⟩, h⟩
   . have := h.1
     unfold execOp at this
     rw [hx] at this
     simp only [runT_pure'] at this
     simp at this
 . rename_i x i hx
   have hE : execOp a.eval o = (do let y <- Instr.extract (a.eval x) i; pure (Next.value y)) := by
    unfold execOp
    rw [hx]
   unfold Oper.wp Oper.asks at h
   rw [hE] at h
   have key : ∀ u : Value, a.eval x = u -> ∃ v, Yields P ops o v a /\ wpList P ops Q rest (a.put o.dst v) w := by
    intro u hu
    rw [hu] at h
    by_cases ht : ∃ vs y, u = .tuple vs /\ vs[i]? = some y
    . obtain ⟨vs, y, rfl, hy⟩ := ht
      have hr : ∀ w, (execOp a.eval o).run P w = .ok (.value y) w := fun w => by
       rw [hE, hu]
       simp [Instr.extract, hy]
      refine ⟨y, .inl ⟨hw, hr⟩, ?_⟩
      rcases h with h | ⟨h, _⟩
      . simpa [Instr.extract, hy, Oper.upon] using h
      . have := h.1
        simp [Instr.extract, hy, runT_pure'] at this
        exact absurd (show noRoomEvent ∈ #[] from this) (by simp)
    . exfalso
      rcases h with h | ⟨h, _⟩
      . cases u
        case tuple vs =>
         cases hv : vs[i]? with
         | none => simp [Instr.extract, hv, stuck, Oper.upon] at h
         | some y => exact ht ⟨vs, y, rfl, hv⟩
        all_goals simp [Instr.extract, stuck, Oper.upon] at h
      . have := h.1
        cases u
        case tuple vs =>
         cases hv : vs[i]? with
         | none => simp [Instr.extract, hv, stuck] at this; exact absurd (show noRoomEvent ∈ #[] from this) (by simp)
         | some y => exact ht ⟨vs, y, rfl, hv⟩
        all_goals (simp [Instr.extract, stuck] at this; exact absurd (show noRoomEvent ∈ #[] from this) (by simp))
   exact key _ rfl
 . cases hp
theorem wpAny_of_mix {Q' : Exit -> Act -> World -> Prop} (hsel : Region.noSelect ops = true) (hQ : ∀ c a d v w, Q' (.panic c) (Act.put a d v) w -> Q' (.panic c) a w) :
 ∀ (l : List Oper) (k : Nat) (listed : Array Bool) (a : Act) (w : World), (∀ j, l[j]? = ops[k + j]?) -> mixB md ops l.length k listed = true -> wpList P ops Q' l a w -> wpAny P md ops Q' l.length listed a w
 | [], _, _, _, _, _, hB, h => ⟨by simpa [mixB] using hB, h⟩
 | o :: l, k, listed, a, w, hl, hB, h => by
   have h0 : ops[k]? = some o := by simpa using (hl 0).symm
   simp only [List.length_cons, mixB, Bool.and_eq_true, Bool.or_eq_true, decide_eq_true_eq] at hB
   have hl' : ∀ j, l[j]? = ops[k + 1 + j]? := fun j => by have := hl (j + 1); simpa [Nat.add_assoc, Nat.add_comm 1 j] using this
   rcases hB.1 with h1 | ⟨⟨h1, h2⟩, h3⟩
   . refine ⟨fun h2 => (by rw [h1] at h2; cases h2), fun i hi => ?_⟩
     rw [h1] at hi
     have hik : i = k := by simpa using hi
     subst hik
     have hw : wpOp P ops Q' i (wpList P ops Q' l) a w := by unfold wpOp; simp only [h0]; exact h
     exact wpOp_mono (fun a' w' h' => wpAny_of_mix hsel hQ l (i + 1) _ a' w' hl' hB.2 h') hw
   . obtain ⟨v, hy, h4⟩ := pure_yields h0 h3 h hQ
     exact wpAny_take h0 hsel h2 h1 (fun c a w => hQ c a _ _ w) hy (wpAny_of_mix hsel hQ l (k + 1) _ _ w hl' hB.2 h4)
theorem headM_first {n i : Nat} {oi : Oper} {v : Value} {L : Array Bool -> Act -> Prop} (hi : ops[i]? = some oi) (hsel : ∀ (j : Nat) (o : Oper) cs b, ops[j]? = some o -> o.op ≠ .select cs b)
 (hs : Region.sinkB md ops n = true) (hc : treeB md ops n = true) (hn : n < ops.size) (hin : i < n) (hdone : ∀ done a, L done a -> ∀ j ∈ Region.ready md ops done, n <= j) (f : Nat) :
 ∀ (done : Array Bool) (a : Act), HeadInv md ops n done ->
  (∀ j oj, ops[j]? = some oj -> j ≠ i -> done.getD j true = false -> (∀ e ∈ oj.after, Region.binds md e = true -> e.on ≠ i) -> oi.apart ops oj = true) ->
  i ∈ Region.ready md ops done -> YieldsIn P ops C oi v a -> headQ P md ops C n L f (done.setIfInBounds i true) (a.put oi.dst v) -> headQ P md ops C n L (f + 1) done a := by
 have below : ∀ done : Array Bool, HeadInv md ops n done -> i ∈ Region.ready md ops done -> ∀ j ∈ Region.ready md ops done, j < n := fun done inv hr j hj => by
  rcases Nat.lt_or_ge j n with h | h
  . exact h
  . exact absurd hj (tree_waits hs hc hn inv _ i rfl hin (mem_ready.1 hr).1 j h)
 induction f with
 | zero =>
   intro done a inv _ hr hy H
   refine ⟨fun h => (by rw [h] at hr; cases hr), fun j hj => ⟨below done inv hr j hj, ?_⟩⟩
   by_cases e : j = i
   . subst e; exact hy.qOp hi H
   . have := hdone _ _ H j (ready_mono hj e)
     have := below done inv hr j hj
     omega
 | succ f ih =>
   intro done a inv hfree hr hy H
   have hun := (mem_ready.1 hr).1
   refine ⟨fun h => (by rw [h] at hr; cases hr), fun j hj => ⟨below done inv hr j hj, ?_⟩⟩
   by_cases e : j = i
   . subst e; exact hy.qOp hi H
   . obtain ⟨hjun, oj, hoj, hall⟩ := mem_ready.1 hj
     have hnot : ∀ e ∈ oj.after, Region.binds md e = true -> e.on ≠ i := fun e he hb heq => by
      have h1 := hall e he hb
      rw [heq, getD_both hun] at h1
      cases h1
     have hstep := qOp_put hoj (hfree j oj hoj e hjun hnot) (fun cs b => hsel i oi cs b hi) (fun cs b => hsel j oj cs b hoj) hy (H.2 j (ready_mono hj e)).2
     refine qOp_mono (fun a' h3 => ih (done.setIfInBounds j true) a' (inv.set hj (below done inv hr j hj)) ?_ (ready_mono hr (Ne.symm e)) h3.1 ?_) hstep
     . intro k ok hk hki hku hno
       refine hfree k ok hk hki ?_ hno
       by_cases hjk : j = k
       . subst hjk; exact hjun
       . rwa [getD_set_ne true hjk] at hku
     . rw [Array.setIfInBounds_comm _ _ e]; exact h3.2
theorem headM_lex {n g : Nat} {T : Act -> Prop} (hsel : Region.noSelect ops = true) (hs : Region.sinkB md ops n = true) (hc : treeB md ops n = true) (hn : n < ops.size) (l : List Oper) :
 ∀ (k : Nat) (done : Array Bool) (a : Act), (∀ j, j < l.length -> l[j]? = ops[k + j]?) -> k + l.length = n -> HeadInv md ops n done ->
  lexMix md ops g l.length k done = true -> wpQuiet P ops C T l a -> headQ P md ops C n (fun done' a' => ((Region.ready md ops done').all (fun j => decide (n <= j)) = true /\ mixB md ops g n done' = true) /\ T a') l.length done a := by
 induction l with
 | nil =>
   intro k done a _ hk _ hB h
   obtain rfl : k = n := by simpa using hk
   exact ⟨by simpa [lexMix] using hB, h⟩
 | cons o l ih =>
   intro k done a hl hk inv hB h
   have h0 : ops[k]? = some o := by simpa using (hl 0 (by simp)).symm
   simp only [List.length_cons, lexMix, Bool.and_eq_true] at hB
   obtain ⟨⟨hr, hf⟩, hB'⟩ := hB
   have hkl : k + (l.length + 1) = n := by simpa using hk
   have hr' : k ∈ Region.ready md ops done := by simpa using hr
   have hq : qOp P ops C k (wpQuiet P ops C T l) a := by unfold qOp; simp only [h0]; exact h
   obtain ⟨v, hy, hK⟩ := yieldsIn_of_qOp h0 hq
   refine headM_first h0 (Region.noSelect_spec hsel) hs hc hn (by omega) (fun done' a' hL j hj => by simpa using List.all_eq_true.1 hL.1.1 j hj) l.length done a inv (Region.free_spec h0 hf) hr' hy ?_
   exact ih (k + 1) _ _ (fun j hj => by have := hl (j + 1) (by simpa using hj); simpa [Nat.add_assoc, Nat.add_comm 1 j] using this) (by omega) (inv.set hr' (by omega)) hB' hK
theorem wp_region_mix {id : Nat} {Q : Exit -> Act -> World -> Prop} {a : Act} {w : World} {l : List Oper} (n : Nat) (hm : P.follows .mixedOrders = true) (hB : lexMixB .any l.toArray n = true)
 (hQ : ∀ c a d v w, Q (.panic c) (Act.put a d v) w -> Q (.panic c) a w)
 (hC : C { w with drawn := w.drawn + 1 }) (h : wpQuiet P l.toArray C (fun a' => ∀ w', C w' -> wpList P l.toArray Q (l.drop n) a' w') (l.take n) a) : (Code.region id l.toArray true).wp P Q a w := by
 simp only [lexMixB, Bool.and_eq_true, decide_eq_true_eq] at hB
 obtain ⟨⟨⟨⟨hsel, hn⟩, hs⟩, hc⟩, hlex⟩ := hB
 have hn' : n < l.length := by simpa using hn
 have htl : (l.take n).length = n := by simp; omega
 have hdl : (l.drop n).length = l.toArray.size - n := by simp
 have inv0 : HeadInv .any l.toArray n (Array.replicate l.toArray.size false) :=
  ⟨by simp, fun j oj _ hl => (by rw [getD_replicate_false] at hl; cases hl), fun t _ ht => getD_in (by simpa using ht) (getD_replicate_false _ _)⟩
 have H := headM_lex (C := C) (md := .any) (g := l.toArray.size - n) hsel hs hc hn (l.take n) 0 _ a (fun j hj => by rw [htl] at hj; simp [hj]) (by simpa using htl) inv0 (by rw [htl]; exact hlex) h
 have key := headQ_sound (Q' := Q) (g := l.toArray.size - n) (fun done a' w' hw' hL => by
  have := wpAny_of_mix (md := .any) (Q' := Q) hsel hQ (l.drop n) n done a' w' (fun j => by simp [List.getElem?_drop]) (by rw [hdl]; exact hL.1.2) (hL.2 w' hw')
  rwa [hdl] at this) _ _ _ _ hC H
 rw [htl, show n + (l.toArray.size - n) = l.toArray.size by omega] at key
 exact wp_region_any hm key
end
theorem wp_region_mix_below {P : Program} {id : Nat} {Q : Exit -> Act -> World -> Prop} {a : Act} {w : World} {l : List Oper} (n : Nat) (hm : P.follows .mixedOrders = true) (hB : lexMixB .any l.toArray n = true)
 (hQ : ∀ c a d v w, Q (.panic c) (Act.put a d v) w -> Q (.panic c) a w)
 (h : wpQuiet P l.toArray (fun w' => ∃ p : Regrown, w' = grow (redrawn w p.d) p.os) (fun a' => ∀ w', (∃ p : Regrown, w' = grow (redrawn w p.d) p.os) -> wpList P l.toArray Q (l.drop n) a' w') (l.take n) a) : (Code.region id l.toArray true).wp P Q a w :=
 wp_region_mix (C := fun w' => ∃ p : Regrown, w' = grow (redrawn w p.d) p.os) n hm hB hQ ⟨⟨w.drawn + 1, #[]⟩, by rw [grow_empty]; rfl⟩ h
end Go.Proofs.YtpojmmgokgamgaaGreat.B
