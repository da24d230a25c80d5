/- Several texts in one: A region that draws its order: its first n operations read (or call what leaves a world of a class); the rest comes behind all of them, some of it one by one (a call, stores), some of it in any order (moves, assignments of slots, parts of tuples): one walk in the order of the text serves every order. A region that draws its order, from whatever of its operations have been taken: a head that reads, a tail that comes behind all of the head: one walk in the order of the text serves every order. (As XMix, where an operation of the tail may come up early: that is taken first.) The law BusPlays: whatever a bus of files is asked. (Written by tools/gen_bp.py.) -/
import Derived.Test.YtafegmmcgghgaaaTail
import Derived.Test.YtafegmmcgghgaaaZI
import Derived.Test.YtafegmmcgghgaaaZJ
import Derived.Deep.Cut
namespace Go.Proofs.Ytafegmmcgghgaaa.B
set_option linter.unusedVariables false
set_option linter.unusedSimpArgs false
open Go.RowKit Go.Sort
/-- Behind n, each operation waits for one between n and itself. -/
def treeB (md : Region.Mode) (ops : Array Oper) (n : Nat) : Bool :=
  (List.range ops.size).all fun t => decide (t ≤ n) || (List.range t).any fun j => decide (n ≤ j) && Region.waitsFor md ops t j
/-- An operation that looks at no memory and always yields: a move, an assignment, a part of a tuple. -/
def pureB (ops : Array Oper) (k : Nat) : Bool :=
  match ops[k]? with
  | some o => o.guard.isNone && (match o.op with | .move _ | .assign _ | .extract _ _ => true | _ => false)
  | none => false
def mixB (md : Region.Mode) (ops : Array Oper) : Nat → Nat → Array Bool → Bool
  | 0, _, done => (Region.ready md ops done).isEmpty
  | g + 1, k, done => (decide (Region.ready md ops done = [k]) || ((Region.ready md ops done).contains k && Region.free md ops done k && pureB ops k)) && mixB md ops g (k + 1) (done.setIfInBounds k true)
def lexMix (md : Region.Mode) (ops : Array Oper) (g : Nat) : Nat → Nat → Array Bool → Bool
  | 0, k, done => (Region.ready md ops done).all (fun j => decide (k ≤ j)) && mixB md ops g k done
  | f + 1, k, done => (Region.ready md ops done).contains k && Region.free md ops done k && lexMix md ops g f (k + 1) (done.setIfInBounds k true)
def lexMixB (md : Region.Mode) (ops : Array Oper) (n : Nat) : Bool :=
  Region.noSelect ops && decide (n < ops.size) && Region.sinkB md ops n && treeB md ops n && lexMix md ops (ops.size - n) n 0 (Array.replicate ops.size false)
section
variable {P : Program} {ops : Array Oper} {md : Region.Mode} {C : World → Prop}
theorem tree_waits {n : Nat} {listed : Array Bool} (hs : Region.sinkB md ops n = true) (hc : treeB md ops n = true) (hn : n < ops.size) (inv : HeadInv md ops n listed) :
    ∀ (d i : Nat), n - i = d → i < n → listed.getD i true = false → ∀ t, n ≤ t → t ∉ Region.ready md ops listed := by
  intro d
  induction d using Nat.strongRecOn with
  | _ d ih =>
    intro i hd hi hun t ht hr
    obtain ⟨_, ot, hot, hall⟩ := mem_ready.1 hr
    have htlt : t < ops.size := (Array.getElem?_eq_some_iff.1 hot).1
    by_cases htn : t = n
    · subst htn
      have h1 := List.all_eq_true.1 hs i (List.mem_range.2 hi)
      obtain ⟨j, hj, hj2⟩ := List.any_eq_true.1 h1
      simp only [Bool.and_eq_true, decide_eq_true_eq] at hj2
      obtain ⟨oj, hoj, e, he, hb, hon⟩ := Region.waitsFor_spec hj2.2
      have hjle : j ≤ t := by have := List.mem_range.1 hj; omega
      by_cases hjt : j = t
      · subst hjt
        have : oj = ot := Option.some.inj (hoj.symm.trans hot)
        subst this
        have h2 := hall e he hb
        rw [hon, getD_both hun] at h2
        cases h2
      · cases hl : listed.getD j false with
        | true =>
          have h2 := inv.closed j oj hoj hl e he hb
          rw [hon, getD_both hun] at h2
          cases h2
        | false =>
          have hjs : j < listed.size := by rw [inv.size]; omega
          exact ih (t - j) (by omega) j rfl (by omega) (getD_in hjs hl) t (Nat.le_refl _) hr
    · have h1 := List.all_eq_true.1 hc t (List.mem_range.2 htlt)
      simp only [Bool.or_eq_true, decide_eq_true_eq] at h1
      rcases h1 with h1 | h1
      · omega
      · obtain ⟨j, hj, hj2⟩ := List.any_eq_true.1 h1
        simp only [Bool.and_eq_true, decide_eq_true_eq] at hj2
        have hjt := List.mem_range.1 hj
        obtain ⟨o', ho', e, he, hb, hon⟩ := Region.waitsFor_spec hj2.2
        have : o' = ot := Option.some.inj (ho'.symm.trans hot)
        subst this
        have h2 := hall e he hb
        rw [hon, getD_both (inv.tail j hj2.1 (by omega))] at h2
        cases h2
theorem runT_pure' {α : Type} (x : α) (w : World) : ((pure x : Sem α).runT P w #[]).2 = #[] := rfl
/-- What a plain walk of such an operation says. -/
theorem pure_yields {Q : Exit → Act → World → Prop} {k : Nat} {o : Oper} {rest : List Oper} {a : Act} {w : World} (ho : ops[k]? = some o) (hp : pureB ops k = true) (h : wpList P ops Q (o :: rest) a w) (hQ : ∀ c a d v w, Q (.panic c) (Act.put a d v) w → Q (.panic c) a w) :
    ∃ v, Yields P ops o v a ∧ wpList P ops Q rest (a.put o.dst v) w := by
  unfold pureB at hp
  simp only [ho, Bool.and_eq_true] at hp
  obtain ⟨hg, hp⟩ := hp
  have hw : Region.wanted o (yielded ops a.tmps) = true := by
    have : o.guard = none := by simpa using hg
    simp [Region.wanted, this]
  unfold wpList at h
  rw [if_pos hw] at h
  split at hp
  · rename_i x hx
    have hr : ∀ w, (execOp a.eval o).run P w = .ok (.value (a.eval x)) w := BigFrame.run_move x hx
    rcases h with h | ⟨h, _⟩
    · unfold Oper.wp at h
      rw [hr w] at h
      exact ⟨_, .inl ⟨hw, hr⟩, h⟩
    · have := h.1
      unfold execOp at this
      rw [hx] at this
      simp only [runT_pure'] at this
      simp at this
  · rename_i x hx
    have hr : ∀ w, (execOp a.eval o).run P w = .ok (.value (a.eval x)) w := BigFrame.run_assign x hx
    rcases h with h | ⟨h, _⟩
    · unfold Oper.wp at h
      rw [hr w] at h
      exact ⟨_, .inl ⟨hw, hr⟩, h⟩
    · have := h.1
      unfold execOp at this
      rw [hx] at this
      simp only [runT_pure'] at this
      simp at this
  · rename_i x i hx
    have hE : execOp a.eval o = (do let y ← Instr.extract (a.eval x) i; pure (Next.value y)) := by
      unfold execOp
      rw [hx]
    unfold Oper.wp Oper.asks at h
    rw [hE] at h
    have key : ∀ u : Value, a.eval x = u → ∃ v, Yields P ops o v a ∧ wpList P ops Q rest (a.put o.dst v) w := by
      intro u hu
      rw [hu] at h
      by_cases ht : ∃ vs y, u = .tuple vs ∧ vs[i]? = some y
      · obtain ⟨vs, y, rfl, hy⟩ := ht
        have hr : ∀ w, (execOp a.eval o).run P w = .ok (.value y) w := fun w => by
          rw [hE, hu]
          simp [Instr.extract, hy]
        refine ⟨y, .inl ⟨hw, hr⟩, ?_⟩
        rcases h with h | ⟨h, _⟩
        · simpa [Instr.extract, hy, Oper.upon] using h
        · have := h.1
          simp [Instr.extract, hy, runT_pure'] at this
          exact absurd (show noRoomEvent ∈ #[] from this) (by simp)
      · exfalso
        rcases h with h | ⟨h, _⟩
        · cases u
          case tuple vs =>
            cases hv : vs[i]? with
            | none => simp [Instr.extract, hv, stuck, Oper.upon] at h
            | some y => exact ht ⟨vs, y, rfl, hv⟩
          all_goals simp [Instr.extract, stuck, Oper.upon] at h
        · have := h.1
          cases u
          case tuple vs =>
            cases hv : vs[i]? with
            | none => simp [Instr.extract, hv, stuck] at this; exact absurd (show noRoomEvent ∈ #[] from this) (by simp)
            | some y => exact ht ⟨vs, y, rfl, hv⟩
          all_goals (simp [Instr.extract, stuck] at this; exact absurd (show noRoomEvent ∈ #[] from this) (by simp))
    exact key _ rfl
  · cases hp
theorem wpAny_of_mix {Q' : Exit → Act → World → Prop} (hsel : Region.noSelect ops = true) (hQ : ∀ c a d v w, Q' (.panic c) (Act.put a d v) w → Q' (.panic c) a w) :
    ∀ (l : List Oper) (k : Nat) (listed : Array Bool) (a : Act) (w : World), (∀ j, l[j]? = ops[k + j]?) → mixB md ops l.length k listed = true → wpList P ops Q' l a w → wpAny P md ops Q' l.length listed a w
  | [], _, _, _, _, _, hB, h => ⟨by simpa [mixB] using hB, h⟩
  | o :: l, k, listed, a, w, hl, hB, h => by
    have h0 : ops[k]? = some o := by simpa using (hl 0).symm
    simp only [List.length_cons, mixB, Bool.and_eq_true, Bool.or_eq_true, decide_eq_true_eq] at hB
    have hl' : ∀ j, l[j]? = ops[k + 1 + j]? := fun j => by have := hl (j + 1); simpa [Nat.add_assoc, Nat.add_comm 1 j] using this
    rcases hB.1 with h1 | ⟨⟨h1, h2⟩, h3⟩
    · refine ⟨fun h2 => (by rw [h1] at h2; cases h2), fun i hi => ?_⟩
      rw [h1] at hi
      have hik : i = k := by simpa using hi
      subst hik
      have hw : wpOp P ops Q' i (wpList P ops Q' l) a w := by unfold wpOp; simp only [h0]; exact h
      exact wpOp_mono (fun a' w' h' => wpAny_of_mix hsel hQ l (i + 1) _ a' w' hl' hB.2 h') hw
    · obtain ⟨v, hy, h4⟩ := pure_yields h0 h3 h hQ
      exact wpAny_take h0 hsel h2 h1 (fun c a w => hQ c a _ _ w) hy (wpAny_of_mix hsel hQ l (k + 1) _ _ w hl' hB.2 h4)
theorem headM_first {n i : Nat} {oi : Oper} {v : Value} {L : Array Bool → Act → Prop} (hi : ops[i]? = some oi) (hsel : ∀ (j : Nat) (o : Oper) cs b, ops[j]? = some o → o.op ≠ .select cs b)
    (hs : Region.sinkB md ops n = true) (hc : treeB md ops n = true) (hn : n < ops.size) (hin : i < n) (hdone : ∀ done a, L done a → ∀ j ∈ Region.ready md ops done, n ≤ j) (f : Nat) :
    ∀ (done : Array Bool) (a : Act), HeadInv md ops n done →
      (∀ j oj, ops[j]? = some oj → j ≠ i → done.getD j true = false → (∀ e ∈ oj.after, Region.binds md e = true → e.on ≠ i) → oi.apart ops oj = true) →
      i ∈ Region.ready md ops done → YieldsIn P ops C oi v a → headQ P md ops C n L f (done.setIfInBounds i true) (a.put oi.dst v) → headQ P md ops C n L (f + 1) done a := by
  have below : ∀ done : Array Bool, HeadInv md ops n done → i ∈ Region.ready md ops done → ∀ j ∈ Region.ready md ops done, j < n := fun done inv hr j hj => by
    rcases Nat.lt_or_ge j n with h | h
    · exact h
    · exact absurd hj (tree_waits hs hc hn inv _ i rfl hin (mem_ready.1 hr).1 j h)
  induction f with
  | zero =>
    intro done a inv _ hr hy H
    refine ⟨fun h => (by rw [h] at hr; cases hr), fun j hj => ⟨below done inv hr j hj, ?_⟩⟩
    by_cases e : j = i
    · subst e; exact hy.qOp hi H
    · have := hdone _ _ H j (ready_mono hj e)
      have := below done inv hr j hj
      omega
  | succ f ih =>
    intro done a inv hfree hr hy H
    have hun := (mem_ready.1 hr).1
    refine ⟨fun h => (by rw [h] at hr; cases hr), fun j hj => ⟨below done inv hr j hj, ?_⟩⟩
    by_cases e : j = i
    · subst e; exact hy.qOp hi H
    · obtain ⟨hjun, oj, hoj, hall⟩ := mem_ready.1 hj
      have hnot : ∀ e ∈ oj.after, Region.binds md e = true → e.on ≠ i := fun e he hb heq => by
        have h1 := hall e he hb
        rw [heq, getD_both hun] at h1
        cases h1
      have hstep := qOp_put hoj (hfree j oj hoj e hjun hnot) (fun cs b => hsel i oi cs b hi) (fun cs b => hsel j oj cs b hoj) hy (H.2 j (ready_mono hj e)).2
      refine qOp_mono (fun a' h3 => ih (done.setIfInBounds j true) a' (inv.set hj (below done inv hr j hj)) ?_ (ready_mono hr (Ne.symm e)) h3.1 ?_) hstep
      · intro k ok hk hki hku hno
        refine hfree k ok hk hki ?_ hno
        by_cases hjk : j = k
        · subst hjk; exact hjun
        · rwa [getD_set_ne true hjk] at hku
      · rw [Array.setIfInBounds_comm _ _ e]; exact h3.2
theorem headM_lex {n g : Nat} {T : Act → Prop} (hsel : Region.noSelect ops = true) (hs : Region.sinkB md ops n = true) (hc : treeB md ops n = true) (hn : n < ops.size) (l : List Oper) :
    ∀ (k : Nat) (done : Array Bool) (a : Act), (∀ j, j < l.length → l[j]? = ops[k + j]?) → k + l.length = n → HeadInv md ops n done →
      lexMix md ops g l.length k done = true → wpQuiet P ops C T l a → headQ P md ops C n (fun done' a' => ((Region.ready md ops done').all (fun j => decide (n ≤ j)) = true ∧ mixB md ops g n done' = true) ∧ T a') l.length done a := by
  induction l with
  | nil =>
    intro k done a _ hk _ hB h
    obtain rfl : k = n := by simpa using hk
    exact ⟨by simpa [lexMix] using hB, h⟩
  | cons o l ih =>
    intro k done a hl hk inv hB h
    have h0 : ops[k]? = some o := by simpa using (hl 0 (by simp)).symm
    simp only [List.length_cons, lexMix, Bool.and_eq_true] at hB
    obtain ⟨⟨hr, hf⟩, hB'⟩ := hB
    have hkl : k + (l.length + 1) = n := by simpa using hk
    have hr' : k ∈ Region.ready md ops done := by simpa using hr
    have hq : qOp P ops C k (wpQuiet P ops C T l) a := by unfold qOp; simp only [h0]; exact h
    obtain ⟨v, hy, hK⟩ := yieldsIn_of_qOp h0 hq
    refine headM_first h0 (Region.noSelect_spec hsel) hs hc hn (by omega) (fun done' a' hL j hj => by simpa using List.all_eq_true.1 hL.1.1 j hj) l.length done a inv (Region.free_spec h0 hf) hr' hy ?_
    exact ih (k + 1) _ _ (fun j hj => by have := hl (j + 1) (by simpa using hj); simpa [Nat.add_assoc, Nat.add_comm 1 j] using this) (by omega) (inv.set hr' (by omega)) hB' hK
/-- The region. -/
theorem wp_region_mix {id : Nat} {Q : Exit → Act → World → Prop} {a : Act} {w : World} {l : List Oper} (n : Nat) (hm : P.follows .mixedOrders = true) (hB : lexMixB .any l.toArray n = true)
    (hQ : ∀ c a d v w, Q (.panic c) (Act.put a d v) w → Q (.panic c) a w)
    (hC : C { w with drawn := w.drawn + 1 }) (h : wpQuiet P l.toArray C (fun a' => ∀ w', C w' → wpList P l.toArray Q (l.drop n) a' w') (l.take n) a) : (Code.region id l.toArray true).wp P Q a w := by
  simp only [lexMixB, Bool.and_eq_true, decide_eq_true_eq] at hB
  obtain ⟨⟨⟨⟨hsel, hn⟩, hs⟩, hc⟩, hlex⟩ := hB
  have hn' : n < l.length := by simpa using hn
  have htl : (l.take n).length = n := by simp; omega
  have hdl : (l.drop n).length = l.toArray.size - n := by simp
  have inv0 : HeadInv .any l.toArray n (Array.replicate l.toArray.size false) :=
    ⟨by simp, fun j oj _ hl => (by rw [getD_replicate_false] at hl; cases hl), fun t _ ht => getD_in (by simpa using ht) (getD_replicate_false _ _)⟩
  have H := headM_lex (C := C) (md := .any) (g := l.toArray.size - n) hsel hs hc hn (l.take n) 0 _ a (fun j hj => by rw [htl] at hj; simp [hj]) (by simpa using htl) inv0 (by rw [htl]; exact hlex) h
  have key := headQ_sound (Q' := Q) (g := l.toArray.size - n) (fun done a' w' hw' hL => by
    have := wpAny_of_mix (md := .any) (Q' := Q) hsel hQ (l.drop n) n done a' w' (fun j => by simp [List.getElem?_drop]) (by rw [hdl]; exact hL.1.2) (hL.2 w' hw')
    rwa [hdl] at this) _ _ _ _ hC H
  rw [htl, show n + (l.toArray.size - n) = l.toArray.size by omega] at key
  exact wp_region_any hm key
end
/-- At the class 'of what was there nothing has turned'. -/
theorem wp_region_mix_below {P : Program} {id : Nat} {Q : Exit → Act → World → Prop} {a : Act} {w : World} {l : List Oper} (n : Nat) (hm : P.follows .mixedOrders = true) (hB : lexMixB .any l.toArray n = true)
    (hQ : ∀ c a d v w, Q (.panic c) (Act.put a d v) w → Q (.panic c) a w)
    (h : wpQuiet P l.toArray (fun w' => ∃ p : Regrown, w' = grow (redrawn w p.d) p.os) (fun a' => ∀ w', (∃ p : Regrown, w' = grow (redrawn w p.d) p.os) → wpList P l.toArray Q (l.drop n) a' w') (l.take n) a) : (Code.region id l.toArray true).wp P Q a w :=
  wp_region_mix (C := fun w' => ∃ p : Regrown, w' = grow (redrawn w p.d) p.os) n hm hB hQ ⟨⟨w.drawn + 1, #[]⟩, by rw [grow_empty]; rfl⟩ h
end Go.Proofs.Ytafegmmcgghgaaa.B
namespace Go.Proofs.Ytafegmmcgghgaaa.B
set_option linter.unusedVariables false
set_option linter.unusedSimpArgs false
open Go.RowKit Go.Sort
/-- Does t wait for i, by whatever way? -/
def blk (md : Region.Mode) (ops : Array Oper) (i : Nat) : Nat → Nat → Bool
  | 0, _ => false
  | f + 1, t => match ops[t]? with
    | none => false
    | some o => o.after.any fun e => Region.binds md e && (e.on == i || blk md ops i f e.on)
def mixI (md : Region.Mode) (ops : Array Oper) : List Nat → Array Bool → Bool
  | [], done => (Region.ready md ops done).isEmpty
  | k :: is, done => (decide (Region.ready md ops done = [k]) || ((Region.ready md ops done).contains k && Region.free md ops done k && pureB ops k)) && mixI md ops is (done.setIfInBounds k true)
def lexI (md : Region.Mode) (ops : Array Oper) (hd ts : List Nat) : List Nat → Array Bool → Bool
  | [], done => (Region.ready md ops done).all (fun j => !hd.contains j) && mixI md ops ts done
  | k :: is, done => (Region.ready md ops done).contains k && Region.free md ops done k && hd.contains k && lexI md ops hd ts is (done.setIfInBounds k true)
def closedB (md : Region.Mode) (ops : Array Oper) (done : Array Bool) : Bool :=
  decide (done.size = ops.size) && (List.range ops.size).all fun j => !done.getD j false || match ops[j]? with
    | none => true
    | some o => o.after.all fun e => !Region.binds md e || done.getD e.on false
def maxB (md : Region.Mode) (ops : Array Oper) (hd ts : List Nat) (done : Array Bool) : Bool :=
  Region.noSelect ops && closedB md ops done && ((List.range ops.size).all fun j => hd.contains j || ts.contains j || done.getD j false) && (hd.all fun i => ts.all fun t => blk md ops i ops.size t) && lexI md ops hd ts hd done
section
variable {P : Program} {ops : Array Oper} {md : Region.Mode} {C : World → Prop}
structure InvI (md : Region.Mode) (ops : Array Oper) (hd ts : List Nat) (done : Array Bool) : Prop where
  size : done.size = ops.size
  closed : ∀ j oj, ops[j]? = some oj → done.getD j false = true → ∀ e ∈ oj.after, Region.binds md e = true → done.getD e.on false = true
  whole : ∀ j, j < ops.size → hd.contains j = true ∨ ts.contains j = true ∨ done.getD j false = true
theorem InvI.set {hd ts : List Nat} {done : Array Bool} (inv : InvI md ops hd ts done) {i : Nat} (hi : i ∈ Region.ready md ops done) : InvI md ops hd ts (done.setIfInBounds i true) := by
  refine ⟨by simpa using inv.size, ?_, ?_⟩
  · intro j oj hoj hl e he hb
    by_cases hij : i = j
    · subst hij
      obtain ⟨_, o', ho', hall⟩ := mem_ready.1 hi
      have : o' = oj := Option.some.inj (ho'.symm.trans hoj)
      subst this
      exact getD_set_true (hall e he hb)
    · rw [getD_set_ne false hij] at hl
      exact getD_set_true (inv.closed j oj hoj hl e he hb)
  · intro j hj
    rcases inv.whole j hj with h | h | h
    · exact .inl h
    · exact .inr (.inl h)
    · exact .inr (.inr (getD_set_true h))
theorem blk_listed {hd ts : List Nat} {done : Array Bool} (inv : InvI md ops hd ts done) (i : Nat) : ∀ (f t : Nat), blk md ops i f t = true → done.getD t false = true → done.getD i false = true := by
  intro f
  induction f with
  | zero => intro t h; simp [blk] at h
  | succ f ih =>
    intro t h hl
    unfold blk at h
    cases ho : ops[t]? with
    | none => simp [ho] at h
    | some o =>
      simp only [ho] at h
      obtain ⟨e, he, hb⟩ := Array.any_eq_true'.1 h
      rw [Bool.and_eq_true, Bool.or_eq_true, beq_iff_eq] at hb
      have h2 := inv.closed t o ho hl e he hb.1
      rcases hb.2 with h3 | h3
      · rw [← h3]; exact h2
      · exact ih e.on h3 h2
theorem blk_ready {hd ts : List Nat} {done : Array Bool} (inv : InvI md ops hd ts done) {i f t : Nat} (h : blk md ops i f t = true) (hr : t ∈ Region.ready md ops done) : done.getD i false = true := by
  cases f with
  | zero => simp [blk] at h
  | succ f =>
    obtain ⟨_, o, ho, hall⟩ := mem_ready.1 hr
    unfold blk at h
    simp only [ho] at h
    obtain ⟨e, he, hb⟩ := Array.any_eq_true'.1 h
    rw [Bool.and_eq_true, Bool.or_eq_true, beq_iff_eq] at hb
    have h2 := hall e he hb.1
    rcases hb.2 with h3 | h3
    · rw [← h3]; exact h2
    · exact blk_listed inv i f e.on h3 h2
/-- While one of the head is to come, only the head comes up. -/
theorem head_only {hd ts : List Nat} {done : Array Bool} (inv : InvI md ops hd ts done) (hw : (hd.all fun i => ts.all fun t => blk md ops i ops.size t) = true) {i : Nat} (hi : hd.contains i = true) (hun : done.getD i true = false) :
    ∀ j ∈ Region.ready md ops done, hd.contains j = true := by
  intro j hj
  obtain ⟨hju, o, ho, _⟩ := mem_ready.1 hj
  have hlt : j < ops.size := (Array.getElem?_eq_some_iff.1 ho).1
  rcases inv.whole j hlt with h | h | h
  · exact h
  · have h1 := List.all_eq_true.1 hw i (by simpa using hi)
    have h2 := List.all_eq_true.1 h1 j (by simpa using h)
    have h3 := blk_ready inv h2 hj
    rw [getD_both hun] at h3
    cases h3
  · rw [getD_both hju] at h; cases h
def headI (P : Program) (md : Region.Mode) (ops : Array Oper) (C : World → Prop) (L : Array Bool → Act → Prop) : Nat → Array Bool → Act → Prop
  | 0, done, a => L done a
  | f + 1, done, a => Region.ready md ops done ≠ [] ∧ ∀ i ∈ Region.ready md ops done, qOp P ops C i (headI P md ops C L f (done.setIfInBounds i true)) a
theorem headI_sound {g : Nat} {L : Array Bool → Act → Prop} {Q' : Exit → Act → World → Prop} (hL : ∀ done a w, C w → L done a → wpAny P md ops Q' g done a w) (f : Nat) :
    ∀ (done : Array Bool) (a : Act) (w : World), C w → headI P md ops C L f done a → wpAny P md ops Q' (f + g) done a w := by
  induction f with
  | zero => intro done a w hw h; rw [Nat.zero_add]; exact hL _ _ _ hw h
  | succ f ih =>
    intro done a w hw ⟨h1, h2⟩
    rw [show f + 1 + g = (f + g) + 1 by omega]
    exact ⟨fun h0 => absurd h0 h1, fun i hi => wpOp_of_qOp hw (fun a' w' hw' h' => ih _ a' w' hw' h') (h2 i hi)⟩
theorem headI_first {hd ts : List Nat} {i : Nat} {oi : Oper} {v : Value} {L : Array Bool → Act → Prop} (hi : ops[i]? = some oi) (hsel : ∀ (j : Nat) (o : Oper) cs b, ops[j]? = some o → o.op ≠ .select cs b)
    (hw : (hd.all fun i => ts.all fun t => blk md ops i ops.size t) = true) (hin : hd.contains i = true) (hdone : ∀ done a, L done a → ∀ j ∈ Region.ready md ops done, hd.contains j = false) (f : Nat) :
    ∀ (done : Array Bool) (a : Act), InvI md ops hd ts done →
      (∀ j oj, ops[j]? = some oj → j ≠ i → done.getD j true = false → (∀ e ∈ oj.after, Region.binds md e = true → e.on ≠ i) → oi.apart ops oj = true) →
      i ∈ Region.ready md ops done → YieldsIn P ops C oi v a → headI P md ops C L f (done.setIfInBounds i true) (a.put oi.dst v) → headI P md ops C L (f + 1) done a := by
  induction f with
  | zero =>
    intro done a inv _ hr hy H
    refine ⟨fun h => (by rw [h] at hr; cases hr), fun j hj => ?_⟩
    by_cases e : j = i
    · subst e; exact hy.qOp hi H
    · have h1 := hdone _ _ H j (ready_mono hj e)
      have h2 := head_only inv hw hin (mem_ready.1 hr).1 j hj
      rw [h2] at h1; cases h1
  | succ f ih =>
    intro done a inv hfree hr hy H
    have hun := (mem_ready.1 hr).1
    refine ⟨fun h => (by rw [h] at hr; cases hr), fun j hj => ?_⟩
    by_cases e : j = i
    · subst e; exact hy.qOp hi H
    · obtain ⟨hjun, oj, hoj, hall⟩ := mem_ready.1 hj
      have hnot : ∀ e ∈ oj.after, Region.binds md e = true → e.on ≠ i := fun e he hb heq => by
        have h1 := hall e he hb
        rw [heq, getD_both hun] at h1
        cases h1
      have hstep := qOp_put hoj (hfree j oj hoj e hjun hnot) (fun cs b => hsel i oi cs b hi) (fun cs b => hsel j oj cs b hoj) hy (H.2 j (ready_mono hj e))
      refine qOp_mono (fun a' h3 => ih (done.setIfInBounds j true) a' (inv.set hj) ?_ (ready_mono hr (Ne.symm e)) h3.1 ?_) hstep
      · intro k ok hk hki hku hno
        refine hfree k ok hk hki ?_ hno
        by_cases hjk : j = k
        · subst hjk; exact hjun
        · rwa [getD_set_ne true hjk] at hku
      · rw [Array.setIfInBounds_comm _ _ e]; exact h3.2
theorem headI_lex {hd ts : List Nat} {T : Act → Prop} (hsel : Region.noSelect ops = true) (hw : (hd.all fun i => ts.all fun t => blk md ops i ops.size t) = true) :
    ∀ (is : List Nat) (ol : List Oper) (done : Array Bool) (a : Act), is.map (fun k => ops[k]?) = ol.map some → InvI md ops hd ts done →
      lexI md ops hd ts is done = true → wpQuiet P ops C T ol a → headI P md ops C (fun done' a' => ((Region.ready md ops done').all (fun j => !hd.contains j) = true ∧ mixI md ops ts done' = true) ∧ T a') is.length done a
  | [], ol, done, a, hm, _, hB, h => by
    obtain rfl : ol = [] := by cases ol <;> simp at hm ⊢
    exact ⟨by simpa [lexI] using hB, h⟩
  | k :: is, ol, done, a, hm, inv, hB, h => by
    cases ol with
    | nil => simp at hm
    | cons o ol =>
      simp only [List.map_cons, List.cons.injEq] at hm
      obtain ⟨h0, hm'⟩ := hm
      simp only [lexI, Bool.and_eq_true] at hB
      obtain ⟨⟨⟨hr, hf⟩, hin⟩, hB'⟩ := hB
      have hr' : k ∈ Region.ready md ops done := by simpa using hr
      have hq : qOp P ops C k (wpQuiet P ops C T ol) a := by unfold qOp; simp only [h0]; exact h
      obtain ⟨v, hy, hK⟩ := yieldsIn_of_qOp h0 hq
      refine headI_first h0 (Region.noSelect_spec hsel) hw hin (fun done' a' hL j hj => by simpa using List.all_eq_true.1 hL.1.1 j hj) is.length done a inv (Region.free_spec h0 hf) hr' hy ?_
      exact headI_lex hsel hw is ol _ _ hm' (inv.set hr') hB' hK
theorem wpAny_of_mixI {Q' : Exit → Act → World → Prop} (hsel : Region.noSelect ops = true) (hQ : ∀ c a d v w, Q' (.panic c) (Act.put a d v) w → Q' (.panic c) a w) :
    ∀ (is : List Nat) (l : List Oper) (listed : Array Bool) (a : Act) (w : World), is.map (fun k => ops[k]?) = l.map some → mixI md ops is listed = true → wpList P ops Q' l a w → wpAny P md ops Q' is.length listed a w
  | [], l, _, _, _, hm, hB, h => by
    obtain rfl : l = [] := by cases l <;> simp at hm ⊢
    exact ⟨by simpa [mixI] using hB, h⟩
  | k :: is, l, listed, a, w, hm, hB, h => by
    cases l with
    | nil => simp at hm
    | cons o l =>
      simp only [List.map_cons, List.cons.injEq] at hm
      obtain ⟨h0, hm'⟩ := hm
      simp only [mixI, Bool.and_eq_true, Bool.or_eq_true, decide_eq_true_eq] at hB
      rcases hB.1 with h1 | ⟨⟨h1, h2⟩, h3⟩
      · refine ⟨fun h2 => (by rw [h1] at h2; cases h2), fun i hi => ?_⟩
        rw [h1] at hi
        have hik : i = k := by simpa using hi
        subst hik
        have hw : wpOp P ops Q' i (wpList P ops Q' l) a w := by unfold wpOp; simp only [h0]; exact h
        exact wpOp_mono (fun a' w' h' => wpAny_of_mixI hsel hQ is l _ a' w' hm' hB.2 h') hw
      · obtain ⟨v, hy, h4⟩ := pure_yields h0 h3 h hQ
        exact wpAny_take h0 hsel h2 h1 (fun c a w => hQ c a _ _ w) hy (wpAny_of_mixI hsel hQ is l _ _ w hm' hB.2 h4)
theorem wpAny_max {Q : Exit → Act → World → Prop} {fuel : Nat} {listed : Array Bool} {a : Act} {w : World} (hd ts : List Nat) (hol tol : List Oper) (hh : hd.map (fun k => ops[k]?) = hol.map some) (ht : ts.map (fun k => ops[k]?) = tol.map some) (hf : fuel = hd.length + ts.length)
    (hB : maxB md ops hd ts listed = true) (hQ : ∀ c a d v w, Q (.panic c) (Act.put a d v) w → Q (.panic c) a w) (hC : C w)
    (h : wpQuiet P ops C (fun a' => ∀ w', C w' → wpList P ops Q tol a' w') hol a) : wpAny P md ops Q fuel listed a w := by
  simp only [maxB, closedB, Bool.and_eq_true, decide_eq_true_eq] at hB
  obtain ⟨⟨⟨⟨hsel, hsz, hcl⟩, hwh⟩, hw⟩, hlex⟩ := hB
  have inv : InvI md ops hd ts listed := by
    refine ⟨hsz, ?_, ?_⟩
    · intro j oj hoj hl e he hb
      have hlt : j < ops.size := (Array.getElem?_eq_some_iff.1 hoj).1
      have h1 := List.all_eq_true.1 hcl j (List.mem_range.2 hlt)
      simp only [hl, hoj, Bool.not_true, Bool.false_or] at h1
      have h2 := Array.all_eq_true_iff_forall_mem.1 h1 e he
      simpa [hb] using h2
    · intro j hj
      have h1 := List.all_eq_true.1 hwh j (List.mem_range.2 hj)
      rw [Bool.or_eq_true, Bool.or_eq_true] at h1
      rcases h1 with (h1 | h1) | h1
      · exact .inl h1
      · exact .inr (.inl h1)
      · exact .inr (.inr h1)
  have H := headI_lex (C := C) (md := md) hsel hw hd hol listed a hh inv hlex h
  subst hf
  exact headI_sound (Q' := Q) (g := ts.length) (fun done a' w' hw' hL => wpAny_of_mixI hsel hQ ts tol done a' w' ht hL.1.2 (hL.2 w' hw')) _ _ _ _ hC H
end
/-- At the class 'of what was there nothing has turned'. -/
theorem wpAny_max_below {P : Program} {ops : Array Oper} {md : Region.Mode} {Q : Exit → Act → World → Prop} {fuel : Nat} {listed : Array Bool} {a : Act} {w : World} (hd ts : List Nat) (hol tol : List Oper) (hh : hd.map (fun k => ops[k]?) = hol.map some) (ht : ts.map (fun k => ops[k]?) = tol.map some) (hf : fuel = hd.length + ts.length)
    (hB : maxB md ops hd ts listed = true) (hQ : ∀ c a d v w, Q (.panic c) (Act.put a d v) w → Q (.panic c) a w)
    (h : wpQuiet P ops (fun w' => ∃ p : Regrown, w' = grow (redrawn w p.d) p.os) (fun a' => ∀ w', (∃ p : Regrown, w' = grow (redrawn w p.d) p.os) → wpList P ops Q tol a' w') hol a) : wpAny P md ops Q fuel listed a w.drew :=
  wpAny_max (C := fun w' => ∃ p : Regrown, w' = grow (redrawn w p.d) p.os) hd ts hol tol hh ht hf hB hQ ⟨⟨w.drawn + 1, #[]⟩, by rw [grow_empty]; rfl⟩ h
/-- Some of a list's operations. -/
def pick (l : List Oper) : List Nat → List Oper
  | [] => []
  | k :: ks => match l[k]? with
    | some o => o :: pick l ks
    | none => pick l ks
theorem pick_map (l : List Oper) : ∀ ks : List Nat, (ks.all fun k => decide (k < l.length)) = true → ks.map (fun k => l.toArray[k]?) = (pick l ks).map some
  | [], _ => rfl
  | k :: ks, h => by
    simp only [List.all_cons, Bool.and_eq_true, decide_eq_true_eq] at h
    have hk : l[k]? = some l[k] := List.getElem?_eq_getElem h.1
    simp only [List.map_cons, pick, hk, List.getElem?_toArray]
    rw [← pick_map l ks h.2]
    simp
theorem wpAny_max_pick {P : Program} {l : List Oper} {md : Region.Mode} {Q : Exit → Act → World → Prop} {fuel : Nat} {listed : Array Bool} {a : Act} {w : World} (hd ts : List Nat)
    (hk : ((hd ++ ts).all fun k => decide (k < l.length)) = true) (hf : fuel = hd.length + ts.length)
    (hB : maxB md l.toArray hd ts listed = true) (hQ : ∀ c a d v w, Q (.panic c) (Act.put a d v) w → Q (.panic c) a w)
    (h : wpQuiet P l.toArray (fun w' => ∃ p : Regrown, w' = grow (redrawn w p.d) p.os) (fun a' => ∀ w', (∃ p : Regrown, w' = grow (redrawn w p.d) p.os) → wpList P l.toArray Q (pick l ts) a' w') (pick l hd) a) : wpAny P md l.toArray Q fuel listed a w.drew := by
  rw [List.all_append, Bool.and_eq_true] at hk
  exact wpAny_max_below hd ts (pick l hd) (pick l ts) (pick_map l hd hk.1) (pick_map l ts hk.2) hf hB hQ h
end Go.Proofs.Ytafegmmcgghgaaa.B
namespace Go.Proofs.Ytafegmmcgghgaaa.B
set_option linter.unusedVariables false
set_option linter.unusedSimpArgs false
open Go.ChangeShapes Go.WideShapes Go.RowKit Go.Sort Go.MapKept Go.Shelf
/-- What the code's Define returns and leaves, from any world in which the document has defined. -/
abbrev DefW (B f m : Nat) (off : Int) (r : Rg) (L L' : List (Int × Rg)) (E : Int) : Prop :=
  ∀ w1 v1, FrAt w1 B f m v1 L L' → Calls Try.prog 7 #[.pointer (some ⟨f, 0, none⟩), .int .u32 off, .agg #[.int .u32 r.v, .int .u32 r.s, .int .u32 r.r, .int .u32 r.c]] w1 (fun e w' => e = .returned (.int .i64 E) ∧ FrAt w' B f m v1 L' L' ∧ Off (· = m) w1 w')
/-- Acts as they come in. -/
def BActsIn (w : World) (y : Option Addr) (len cap : Nat) : Prop := len = 0 ∨ ∃ z off, y = some ⟨z, off, none⟩ ∧ len ≤ cap ∧ cap ≤ maxLen ∧ z < w.heap.size ∧ ∀ i, i < cap → ∃ (K b s N a v : Int) (r : Rg),
  w.cell? ⟨z, off + i * 10, none⟩ = some (.int .i64 K) ∧ w.cell? ⟨z, off + i * 10 + 1, none⟩ = some (.int .u32 b) ∧ w.cell? ⟨z, off + i * 10 + 2, none⟩ = some (.int .u32 s) ∧ w.cell? ⟨z, off + i * 10 + 3, none⟩ = some (.int .i64 N) ∧ w.cell? ⟨z, off + i * 10 + 4, none⟩ = some (.int .u32 a) ∧ w.cell? ⟨z, off + i * 10 + 5, none⟩ = some (.int .u32 v) ∧ w.cell? ⟨z, off + i * 10 + 6, none⟩ = some (.int .u32 r.v) ∧ w.cell? ⟨z, off + i * 10 + 7, none⟩ = some (.int .u32 r.s) ∧ w.cell? ⟨z, off + i * 10 + 8, none⟩ = some (.int .u32 r.r) ∧ w.cell? ⟨z, off + i * 10 + 9, none⟩ = some (.int .u32 r.c) ∧
  (-9223372036854775808 ≤ K ∧ K < 9223372036854775808) ∧ (0 ≤ b ∧ b < 4294967296) ∧ (0 ≤ s ∧ s < 4294967296) ∧ (0 ≤ a ∧ a < 4294967296) ∧ (0 ≤ v ∧ v < 4294967296) ∧ r.wf
theorem rForm {w : World} {B : Nat} {v : Value} {R : List (Int × Int)} (h : OwnR w B v R) : ∃ y c, v = .slice y R.length c ∧ (R.length = 0 ∨ ∃ g, y = some ⟨g, 0, none⟩ ∧ R.length ≤ c ∧ c ≤ maxLen ∧ g < w.heap.size) := by
  rcases row_form h with ⟨h1, h2⟩ | ⟨g, cap, h1, h2, h3, h4, _⟩
  · exact ⟨none, 0, by rw [h1, h2], .inl h2⟩
  · exact ⟨_, cap, h1, .inr ⟨g, rfl, h2, h3, h4⟩⟩
theorem lForm {w : World} {B : Nat} {v : Value} {M : List Sg} (h : OwnB w B v M) : ∃ y c, v = .slice y M.length c ∧ (M.length = 0 ∨ ∃ g, y = some ⟨g, 0, none⟩ ∧ M.length ≤ c ∧ c ≤ maxLen ∧ g < w.heap.size) := by
  rcases h.cases with ⟨h1, h2⟩ | ⟨g, cap, h1, _, h2, h3, h4, _⟩
  · subst h2; exact ⟨none, 0, h1, .inl rfl⟩
  · exact ⟨_, cap, h1, .inr ⟨g, rfl, h2, h3, h4⟩⟩
set_option maxRecDepth 100000 in
set_option maxHeartbeats 25600000 in
theorem busPlays (hSort : SortSaid) (hNil : SortNil) (w : World) (y : Option Addr) (len cap : Nat) (hy : BActsIn w y len cap) :
    Calls Try.prog 4 #[.slice y len cap] w fun e w' => e = .returned (.bool true) ∧ Below w.heap.size w w' := by
  have HY := Lib.hid hy
  have AL := Lib.hid (fun (w : World) (f m B : Nat) (v : Value) (L : List (Int × Rg)) (q : FrAt w B f m v L L) (hl : L.length < 100000) => rAlike hSort hNil q.F q.O q.R hl)
  clear hy hSort hNil
  go_enter Try.func4, Try.ntmps4
  go_wp2_with fail
  refine (uNew w).mono ?_
  rintro e w1 ⟨rfl, hU, hb⟩
  have I0 : Ini w1 (w.heap.size + 1) w.heap.size (fun _ => 0) (fun _ => 0) 0 0 0 (.slice none 0 0) (.slice none 0 0) := ⟨hU, fun i hi => by omega, fun i j hi => by omega, ownV_nil _ _ _, ownV_nil _ _ _⟩
  have hs0 : w.heap.size < w1.heap.size := by have := hU.ltp; omega
  clear hU
  go_wp2_with fail
  go_loopw [5, 6, 7] (fun fv mv i wr => ∃ (k : Nat) (F Mb : Nat → Nat), k ≤ 6 ∧ i = .int .i64 k ∧ Ini wr (w.heap.size + 1) w.heap.size F Mb k k k fv mv ∧ Below w.heap.size w wr ∧ w.heap.size < wr.heap.size) (fun _ _ i _ => 6 - (intOf i).toNat)
  case atStart => exact ⟨0, _, _, by omega, rfl, I0, hb, hs0⟩
  case round =>
    clear I0 hb hs0
    obtain ⟨k, F, Mb, hk, rfl, I, hB, hsz⟩ := hrel
    by_cases hlt : k < 6
    · go_wp2_with fail
      refine (fNew _).mono ?_
      rintro e w2 ⟨rfl, hF, hb2⟩
      have I2 := I.file hb2 hsz hF
      have B2 := tr hB hb2
      have e1 : ptF (updF F k (wr.heap.size + 1)) k = .pointer (some ⟨wr.heap.size + 1, 0, none⟩) := by unfold ptF; rw [updF_same]
      clear I hB hF hb2
      have hbA := trA (tr0 w2) (.cells #[.pointer (some ⟨wr.heap.size + 1, 0, none⟩)] 23 (0, 0))
      have hY := blk_new w2 (.cells #[.pointer (some ⟨wr.heap.size + 1, 0, none⟩)] 23 (0, 0))
      have I3 := I2.below hbA
      have B3 := tr B2 hbA
      have hbs := B3.size
      have OV := I3.fs
      have hkl : ((List.range k).map (ptF (updF F k (wr.heap.size + 1)))).length < 100000 := by simp; omega
      have HI3 := Lib.hid I3
      clear I2 B2 hbA I3
      go_upto_region 9 with (refine appendP rfl (.tmp 30) (.tmp 32) rfl rfl OV rfl hY rfl hkl hbs ?_; intro fv5 w5 O5 ho5)
      rw [← e1] at O5
      have I5 := HI3.out.putF ho5 O5
      have B5 := Off.toBelow B3 ho5 (fun q hq e => by have := (OV.block e).1; omega) (Nat.le_refl _)
      clear HI3 B3 OV O5 ho5 hY hbs hkl e1
      have hbA := trA (tr0 w5) (.cells #[.slice none 0 0] 25 (0, 0))
      have hY := blk_new w5 (.cells #[.slice none 0 0] 25 (0, 0))
      have I6 := I5.below hbA
      have B6 := tr B5 hbA
      have hbs := B6.size
      have OV := I6.ms
      have hkl : ((List.range k).map (fun _ => vNil)).length < 100000 := by simp; omega
      have HI6 := Lib.hid I6
      clear I5 B5 hbA I6
      go_wp2_with (refine appendS rfl (.tmp 34) (.tmp 35) rfl rfl OV rfl hY rfl hkl hbs ?_; intro mv5 w7 O5 ho5)
      have I7 := HI6.out.putM ho5 O5
      have B7 := Off.toBelow B6 ho5 (fun q hq e => by have := (OV.block e).1; omega) (Nat.le_refl _)
      have hs7 : w.heap.size < w7.heap.size := by have := I7.bus.ltp; omega
      clear HI6 B6 OV O5 ho5 hY hbs hkl
      go_wp2_with fail
      go_roundw
      case measure => simp [intOf]; omega
      case rel => exact ⟨k + 1, _, _, by omega, by go_num, I7, B7, hs7⟩
    · obtain rfl : k = 6 := by omega
      have Q0 := I.done (Nat.le_succ _) (Nat.le_of_lt hsz)
      clear I hlt
      go_wp2_with fail
      go_loopw [4, 6, 8] (fun lv mv i wr => ∃ (k : Nat) (M : List Sg) (V : Nat → Value) (L : Nat → List (Int × Rg)), k ≤ len ∧ k ≤ 80 ∧ i = .int .i64 k ∧ Bnow w w.heap.size (w.heap.size + 1) w.heap.size F Mb lv M M _ mv V L L wr ∧ M.length ≤ 64 ∧ Hid (∀ i, i < 6 → (L i).length ≤ k)) (fun lv mv i wr => len - (intOf i).toNat)
      case atStart => exact ⟨0, [], _, _, by omega, by omega, rfl, ⟨_, _, _, _, _, Q0, hB⟩, by simp, Lib.hid (fun _ _ => by simp)⟩
      case round =>
        clear Q0 hB hsz
        obtain ⟨k, M, V, L, hk, hkl, rfl, ⟨rv, R, ks, pv, Lp, Q, hB⟩, hM, HL⟩ := hrel
        by_cases hlt : k < len ∧ k < 80
        · obtain ⟨hlt, hlm⟩ := hlt
          rcases HY.out with hy | ⟨z, off, rfl, hlc, hcm, hbl, hz⟩
          · omega
          unfold maxLen at hcm
          obtain ⟨K, b, s, N, a, v, r, c0, c1, c2, c3, c4, c5, c6, c7, c8, c9, ⟨k0, k1⟩, ⟨b0, b1⟩, ⟨s0, s1⟩, ⟨a0, a1⟩, ⟨v0, v1⟩, hr⟩ := hz k (by omega)
          rw [← hB.cell (p := ⟨z, _, none⟩) (by simpa using hbl)] at c0 c1 c2 c3 c4 c5 c6 c7 c8 c9
          clear hz
          have hLL : ∀ i, i < 6 → (L i).length < 90000 := fun i hi => by have := HL.out i hi; omega
          have hX := blk_new wr (.cells #[.int .i64 K, .int .u32 b, .int .u32 s, .int .i64 N, .int .u32 a, .int .u32 v, .int .u32 r.v, .int .u32 r.s, .int .u32 r.r, .int .u32 r.c] 57 (0, 0))
          have hbA := trA (tr0 wr) (.cells #[.int .i64 K, .int .u32 b, .int .u32 s, .int .i64 N, .int .u32 a, .int .u32 v, .int .u32 r.v, .int .u32 r.s, .int .u32 r.r, .int .u32 r.c] 57 (0, 0))
          have Q1 := Q.below hbA
          have B1 := tr hB hbA
          have hwl := lt_of_block hX
          have hqB : w.heap.size ≤ wr.heap.size := Q.hB
          clear Q hB hbA
          go_upto_region 14 with (fail)
          generalize wr.alloc (.cells #[.int .i64 K, .int .u32 b, .int .u32 s, .int .i64 N, .int .u32 a, .int .u32 v, .int .u32 r.v, .int .u32 r.s, .int .u32 r.r, .int .u32 r.c] 57 (0, 0)) = W at *
          generalize wr.heap.size = q at *
          clear c0 c1 c2 c3 c4 c5 c6 c7 c8 c9
          have y0 := blk_cell hX 0
          have y1 := blk_cell hX 1
          have y2 := blk_cell hX 2
          have y3 := blk_cell hX 3
          have y4 := blk_cell hX 4
          have y5 := blk_cell hX 5
          have y6 := blk_cell hX 6
          have y7 := blk_cell hX 7
          have y8 := blk_cell hX 8
          have y9 := blk_cell hX 9
          simp only [List.getElem?_toArray, List.getElem?_cons_zero, List.getElem?_cons_succ] at y0 y1 y2 y3 y4 y5 y6 y7 y8 y9
          have hn := mod_six N
          go_upto_region 15 with (fail)
          generalize wrap64 ((IntKind.u64.wrap N).tmod 6) = nn at *
          obtain ⟨j, rfl⟩ := Int.eq_ofNat_of_zero_le hn.1
          have hj : j < 6 := by omega
          clear hn
          obtain ⟨fg, fc, hfv, hfc, hfm, hfB, hfl⟩ := Q1.fform
          obtain ⟨mg, mc, rfl, hmc, hmm, hmB, hml⟩ := Q1.mform
          subst hfv
          unfold maxLen at hfm hmm
          go_upto_region 16 with (fail)
          go_cut [57] from 37 to 227 (fun s57 wx => s57 = .int .i64 K ∧ wx = W)
          case first =>
            clear Q1 B1
            go_wp2_with fail
            go_meet
            exact ⟨rfl, rfl⟩
          case rest =>
            obtain ⟨rfl, hwx⟩ := hcut
            rw [hwx]
            clear hwx
            apply_assumption
            go_cut [4, 6] from 37 to 227 (fun s4 s6 wx => ∃ (M' : List Sg) (V' : Nat → Value) (L' : Nat → List (Int × Rg)), Bnow w w.heap.size (w.heap.size + 1) w.heap.size F Mb s4 M' M' (.slice (some ⟨fg, 0, none⟩) 6 fc) s6 V' L' L' wx ∧ M'.length ≤ 64 ∧ Hid (∀ i, i < 6 → (L' i).length ≤ k + 1))
            case first =>
              have hkind : K = 0 ∨ K = 1 ∨ K = 2 ∨ K = 3 ∨ K = 4 ∨ ((K == 0) = false ∧ (K == 1) = false ∧ (K == 2) = false ∧ (K == 3) = false ∧ (K == 4) = false) := by simp; omega
              rcases hkind with rfl | rfl | rfl | rfl | rfl | ⟨q0, q1, q2, q3, q4⟩
              · obtain ⟨E, M', hM9, C1, C2⟩ := doAttach rfl Q1 B1 j hj b s b0 b1 s0 s1 hM
                have HC1 := Lib.hid C1
                have HC2 := Lib.hid C2
                have zE : (E != E) = false := by simp
                have HL9 : Hid (∀ i, i < 6 → (L i).length ≤ k + 1) := Lib.hid (fun i hi => Nat.le_succ_of_le (HL.out i hi))
                clear C1 C2
                go_wp2_with fail
                refine HC1.out.mono ?_
                rintro e W2 ⟨lv2, rfl, Q2, hb2⟩
                have hbd := trD hb2
                have Q3 := Q2.below (trD (tr0 W2))
                have B3 := tr B1 hbd
                have hX3 := blk_below hbd hX hwl
                have c0 : W2.drew.cell? ⟨fg, j, none⟩ = some (ptF F j) := by
                  have h1 := Q3.fs
                  rw [show (6 : Nat) = (six (ptF F)).length from (six_len _).symm] at h1
                  exact h1.cell (six_at (ptF F) hj)
                clear Q1 Q2 B1 hb2 hbd hX y0 y1 y2 y3 y4 y5 y6 y7 y8 y9
                have y0 := blk_cell hX3 0
                have y1 := blk_cell hX3 1
                have y2 := blk_cell hX3 2
                have y3 := blk_cell hX3 3
                have y4 := blk_cell hX3 4
                have y5 := blk_cell hX3 5
                have y6 := blk_cell hX3 6
                have y7 := blk_cell hX3 7
                have y8 := blk_cell hX3 8
                have y9 := blk_cell hX3 9
                simp only [List.getElem?_toArray, List.getElem?_cons_zero, List.getElem?_cons_succ] at y0 y1 y2 y3 y4 y5 y6 y7 y8 y9
                go_wp2_with fail
                refine wp_region_any (by kernel_rfl) ?_
                try (change wpAny _ _ _ _ _ _ _ (World.drew _))
                generalize W2.drew = W5 at *
                refine wpAny_take (i := 0) (v := .pointer (some ⟨w.heap.size + 1, 0, none⟩)) rfl (by as_aux_lemma => kernel_rfl) (by as_aux_lemma => kernel_rfl) (by as_aux_lemma => kernel_rfl) (fun _ _ _ h => h) (Or.inl ⟨by kernel_rfl, fun w => by go_simp⟩) ?_
                refine wpAny_take (i := 1) (v := .pointer (some ⟨q, 1, none⟩)) rfl (by as_aux_lemma => kernel_rfl) (by as_aux_lemma => kernel_rfl) (by as_aux_lemma => kernel_rfl) (fun _ _ _ h => h) (Or.inl ⟨by kernel_rfl, fun w => by go_simp⟩) ?_
                refine wpAny_take (i := 3) (v := .slice (some ⟨fg, 0, none⟩) 6 fc) rfl (by as_aux_lemma => kernel_rfl) (by as_aux_lemma => kernel_rfl) (by as_aux_lemma => kernel_rfl) (fun _ _ _ h => h) (Or.inl ⟨by kernel_rfl, fun w => by go_simp⟩) ?_
                refine wpAny_take (i := 4) (v := .int .i64 j) rfl (by as_aux_lemma => kernel_rfl) (by as_aux_lemma => kernel_rfl) (by as_aux_lemma => kernel_rfl) (fun _ _ _ h => h) (Or.inl ⟨by kernel_rfl, fun w => by go_simp⟩) ?_
                refine wpAny_take (i := 5) (v := .pointer (some ⟨fg, j, none⟩)) rfl (by as_aux_lemma => kernel_rfl) (by as_aux_lemma => kernel_rfl) (by as_aux_lemma => kernel_rfl) (fun _ _ _ h => h) (Or.inl ⟨by kernel_rfl, fun w => by go_simp; intro hh; omega⟩) ?_
                refine wpAny_take (i := 9) (v := .int .i64 E) rfl (by as_aux_lemma => kernel_rfl) (by as_aux_lemma => kernel_rfl) (by as_aux_lemma => kernel_rfl) (fun _ _ _ h => h) (Or.inl ⟨by kernel_rfl, fun w => by go_simp⟩) ?_
                refine wpAny_ready (rs := [2, 6]) (by as_aux_lemma => kernel_rfl) (by simp) ?_
                refine AllReady.cons rfl (fun K hK => ?_) (AllReady.cons rfl (fun K hK => ?_) AllReady.nil)
                · go_simp
                  refine hK _ _ ?_
                  clear hK K
                  refine wpAny_ready (rs := [6]) (by as_aux_lemma => kernel_rfl) (by simp) ?_
                  refine AllReady.cons rfl (fun K hK => ?_) AllReady.nil
                  go_simp
                  refine hK _ _ ?_
                  clear hK K
                  refine wpAny_take (i := 7) (v := .iface 23 (ptF F j)) rfl (by as_aux_lemma => kernel_rfl) (by as_aux_lemma => kernel_rfl) (by as_aux_lemma => kernel_rfl) (fun _ _ _ h => h) (Or.inl ⟨by kernel_rfl, fun w => by go_simp⟩) ?_
                  refine wpAny_ready (rs := [8]) (by as_aux_lemma => kernel_rfl) (by simp) ?_
                  refine AllReady.cons rfl (fun K hK => ?_) AllReady.nil
                  go_simp
                  go_wp2_with (go_at_call 21; refine (HC2.out _ _ Q3 B3).mono ?_; rintro e W3 ⟨rfl, hN, ho⟩)
                  obtain ⟨rv2, R2, ks2, pv2, Lp2, Q4, B4⟩ := hN
                  have hX4 := ho.at hX3 (ub_cells Q3.bus hX3 rfl rfl rfl)
                  clear Q3 B3 ho hX3 c0 HC2 y0 y1 y2 y3 y4 y5 y6 y7 y8 y9
                  have y0 := blk_cell hX4 0
                  have y1 := blk_cell hX4 1
                  have y2 := blk_cell hX4 2
                  have y3 := blk_cell hX4 3
                  have y4 := blk_cell hX4 4
                  have y5 := blk_cell hX4 5
                  have y6 := blk_cell hX4 6
                  have y7 := blk_cell hX4 7
                  have y8 := blk_cell hX4 8
                  have y9 := blk_cell hX4 9
                  simp only [List.getElem?_toArray, List.getElem?_cons_zero, List.getElem?_cons_succ] at y0 y1 y2 y3 y4 y5 y6 y7 y8 y9
                  refine wpAny_take (i := 10) (v := .bool false) rfl (by as_aux_lemma => kernel_rfl) (by as_aux_lemma => kernel_rfl) (by as_aux_lemma => kernel_rfl) (fun _ _ _ h => h) (Or.inl ⟨by kernel_rfl, fun w => by go_simp⟩) ?_
                  refine wpAny_take (i := 11) (v := .bool false) rfl (by as_aux_lemma => kernel_rfl) (by as_aux_lemma => kernel_rfl) (by as_aux_lemma => kernel_rfl) (fun _ _ _ h => h) (Or.inl ⟨by kernel_rfl, fun w => by go_simp⟩) ?_
                  refine wpAny_take (i := 12) (v := .pointer (some ⟨w.heap.size + 1, 0, none⟩)) rfl (by as_aux_lemma => kernel_rfl) (by as_aux_lemma => kernel_rfl) (by as_aux_lemma => kernel_rfl) (fun _ _ _ h => h) (Or.inl ⟨by kernel_rfl, fun w => by go_simp⟩) ?_
                  refine wpAny_take (i := 13) (v := .pointer (some ⟨q, 1, none⟩)) rfl (by as_aux_lemma => kernel_rfl) (by as_aux_lemma => kernel_rfl) (by as_aux_lemma => kernel_rfl) (fun _ _ _ h => h) (Or.inl ⟨by kernel_rfl, fun w => by go_simp⟩) ?_
                  refine wpAny_ready (rs := [14]) (by as_aux_lemma => kernel_rfl) (by simp) ?_
                  refine AllReady.cons rfl (fun K hK => ?_) AllReady.nil
                  go_simp
                  refine hK _ _ ?_
                  clear hK K
                  refine wpAny_ready (rs := [15]) (by as_aux_lemma => kernel_rfl) (by simp) ?_
                  refine AllReady.cons rfl (fun K hK => ?_) AllReady.nil
                  go_simp
                  go_wp2_with (go_at_call 21; refine (uAttachNoDev (w.heap.size + 1) b s _).mono ?_; rintro e W9 ⟨rfl, hb9⟩)
                  refine wpAny_take (i := 16) (v := .bool false) rfl (by as_aux_lemma => kernel_rfl) (by as_aux_lemma => kernel_rfl) (by as_aux_lemma => kernel_rfl) (fun _ _ _ h => h) (Or.inl ⟨by kernel_rfl, fun w => by go_simp⟩) ?_
                  refine wpAny_take (i := 17) (v := .bool false) rfl (by as_aux_lemma => kernel_rfl) (by as_aux_lemma => kernel_rfl) (by as_aux_lemma => kernel_rfl) (fun _ _ _ h => h) (Or.inl ⟨by kernel_rfl, fun w => by go_simp⟩) ?_
                  refine wpAny_done (by as_aux_lemma => kernel_rfl) ?_ _
                  have Q9 := Q4.below hb9
                  have B9 := tr B4 hb9
                  clear Q4 B4 hb9 hX4 y0 y1 y2 y3 y4 y5 y6 y7 y8 y9
                  go_wp2_with fail
                  go_meet
                  exact ⟨M', V, L, ⟨_, _, _, _, _, Q9, B9⟩, hM9, HL9⟩
                · go_simp
                  refine hK _ _ ?_
                  clear hK K
                  refine wpAny_take (i := 7) (v := .iface 23 (ptF F j)) rfl (by as_aux_lemma => kernel_rfl) (by as_aux_lemma => kernel_rfl) (by as_aux_lemma => kernel_rfl) (fun _ _ _ h => h) (Or.inl ⟨by kernel_rfl, fun w => by go_simp⟩) ?_
                  refine wpAny_ready (rs := [2]) (by as_aux_lemma => kernel_rfl) (by simp) ?_
                  refine AllReady.cons rfl (fun K hK => ?_) AllReady.nil
                  go_simp
                  refine hK _ _ ?_
                  clear hK K
                  refine wpAny_ready (rs := [8]) (by as_aux_lemma => kernel_rfl) (by simp) ?_
                  refine AllReady.cons rfl (fun K hK => ?_) AllReady.nil
                  go_simp
                  go_wp2_with (go_at_call 21; refine (HC2.out _ _ Q3 B3).mono ?_; rintro e W3 ⟨rfl, hN, ho⟩)
                  obtain ⟨rv2, R2, ks2, pv2, Lp2, Q4, B4⟩ := hN
                  have hX4 := ho.at hX3 (ub_cells Q3.bus hX3 rfl rfl rfl)
                  clear Q3 B3 ho hX3 c0 HC2 y0 y1 y2 y3 y4 y5 y6 y7 y8 y9
                  have y0 := blk_cell hX4 0
                  have y1 := blk_cell hX4 1
                  have y2 := blk_cell hX4 2
                  have y3 := blk_cell hX4 3
                  have y4 := blk_cell hX4 4
                  have y5 := blk_cell hX4 5
                  have y6 := blk_cell hX4 6
                  have y7 := blk_cell hX4 7
                  have y8 := blk_cell hX4 8
                  have y9 := blk_cell hX4 9
                  simp only [List.getElem?_toArray, List.getElem?_cons_zero, List.getElem?_cons_succ] at y0 y1 y2 y3 y4 y5 y6 y7 y8 y9
                  refine wpAny_take (i := 10) (v := .bool false) rfl (by as_aux_lemma => kernel_rfl) (by as_aux_lemma => kernel_rfl) (by as_aux_lemma => kernel_rfl) (fun _ _ _ h => h) (Or.inl ⟨by kernel_rfl, fun w => by go_simp⟩) ?_
                  refine wpAny_take (i := 11) (v := .bool false) rfl (by as_aux_lemma => kernel_rfl) (by as_aux_lemma => kernel_rfl) (by as_aux_lemma => kernel_rfl) (fun _ _ _ h => h) (Or.inl ⟨by kernel_rfl, fun w => by go_simp⟩) ?_
                  refine wpAny_take (i := 12) (v := .pointer (some ⟨w.heap.size + 1, 0, none⟩)) rfl (by as_aux_lemma => kernel_rfl) (by as_aux_lemma => kernel_rfl) (by as_aux_lemma => kernel_rfl) (fun _ _ _ h => h) (Or.inl ⟨by kernel_rfl, fun w => by go_simp⟩) ?_
                  refine wpAny_take (i := 13) (v := .pointer (some ⟨q, 1, none⟩)) rfl (by as_aux_lemma => kernel_rfl) (by as_aux_lemma => kernel_rfl) (by as_aux_lemma => kernel_rfl) (fun _ _ _ h => h) (Or.inl ⟨by kernel_rfl, fun w => by go_simp⟩) ?_
                  refine wpAny_ready (rs := [14]) (by as_aux_lemma => kernel_rfl) (by simp) ?_
                  refine AllReady.cons rfl (fun K hK => ?_) AllReady.nil
                  go_simp
                  refine hK _ _ ?_
                  clear hK K
                  refine wpAny_ready (rs := [15]) (by as_aux_lemma => kernel_rfl) (by simp) ?_
                  refine AllReady.cons rfl (fun K hK => ?_) AllReady.nil
                  go_simp
                  go_wp2_with (go_at_call 21; refine (uAttachNoDev (w.heap.size + 1) b s _).mono ?_; rintro e W9 ⟨rfl, hb9⟩)
                  refine wpAny_take (i := 16) (v := .bool false) rfl (by as_aux_lemma => kernel_rfl) (by as_aux_lemma => kernel_rfl) (by as_aux_lemma => kernel_rfl) (fun _ _ _ h => h) (Or.inl ⟨by kernel_rfl, fun w => by go_simp⟩) ?_
                  refine wpAny_take (i := 17) (v := .bool false) rfl (by as_aux_lemma => kernel_rfl) (by as_aux_lemma => kernel_rfl) (by as_aux_lemma => kernel_rfl) (fun _ _ _ h => h) (Or.inl ⟨by kernel_rfl, fun w => by go_simp⟩) ?_
                  refine wpAny_done (by as_aux_lemma => kernel_rfl) ?_ _
                  have Q9 := Q4.below hb9
                  have B9 := tr B4 hb9
                  clear Q4 B4 hb9 hX4 y0 y1 y2 y3 y4 y5 y6 y7 y8 y9
                  go_wp2_with fail
                  go_meet
                  exact ⟨M', V, L, ⟨_, _, _, _, _, Q9, B9⟩, hM9, HL9⟩
              · as_aux_lemma =>
                  obtain ⟨X, E, C1, C2⟩ := doBLoad Q1 B1 rfl a a0 a1 (by omega) hLL
                  have HC1 := Lib.hid C1
                  have HC2 := Lib.hid C2
                  have zE : (E != E) = false := by simp
                  have zX : (X != X) = false := by simp
                  clear C1 C2
                  go_wp2_with fail
                  refine HC1.out.mono ?_
                  rintro e W2 ⟨rfl, Q2, hb2⟩
                  have B2 := tr B1 hb2
                  have hX2 := blk_below hb2 hX hwl
                  clear Q1 B1 hb2 hX y0 y1 y2 y3 y4 y5 y6 y7 y8 y9
                  have y0 := blk_cell hX2 0
                  have y1 := blk_cell hX2 1
                  have y2 := blk_cell hX2 2
                  have y3 := blk_cell hX2 3
                  have y4 := blk_cell hX2 4
                  have y5 := blk_cell hX2 5
                  have y6 := blk_cell hX2 6
                  have y7 := blk_cell hX2 7
                  have y8 := blk_cell hX2 8
                  have y9 := blk_cell hX2 9
                  simp only [List.getElem?_toArray, List.getElem?_cons_zero, List.getElem?_cons_succ] at y0 y1 y2 y3 y4 y5 y6 y7 y8 y9
                  go_wp2_with fail
                  refine (HC2.out _ Q2 B2).mono ?_
                  rintro e W9 ⟨rfl, Q9, B9⟩
                  have hM9 := hM
                  have HL9 : Hid (∀ i, i < 6 → (L i).length ≤ k + 1) := Lib.hid (fun i hi => Nat.le_succ_of_le (HL.out i hi))
                  clear Q2 B2 hX2 HC1 HC2 y0 y1 y2 y3 y4 y5 y6 y7 y8 y9
                  go_wp2_with fail
                  go_meet
                  exact ⟨M, V, L, ⟨_, _, _, _, _, Q9, B9⟩, hM9, HL9⟩
              · as_aux_lemma =>
                  obtain ⟨E, K2, hK2, C1, C2⟩ := doBStore Q1 B1 rfl a v a0 a1 v0 v1 (by omega) hLL HL.out
                  have HC1 := Lib.hid C1
                  have HC2 := Lib.hid C2
                  have HL9 := Lib.hid hK2
                  have zE : (E != E) = false := by simp
                  clear C1 C2 hK2
                  go_wp2_with fail
                  refine HC1.out.mono ?_
                  rintro e W2 ⟨mv2, V2, rfl, Q2, hb2⟩
                  have B2 := tr B1 hb2
                  have hX2 := blk_below hb2 hX hwl
                  clear Q1 B1 hb2 hX y0 y1 y2 y3 y4 y5 y6 y7 y8 y9
                  have y0 := blk_cell hX2 0
                  have y1 := blk_cell hX2 1
                  have y2 := blk_cell hX2 2
                  have y3 := blk_cell hX2 3
                  have y4 := blk_cell hX2 4
                  have y5 := blk_cell hX2 5
                  have y6 := blk_cell hX2 6
                  have y7 := blk_cell hX2 7
                  have y8 := blk_cell hX2 8
                  have y9 := blk_cell hX2 9
                  simp only [List.getElem?_toArray, List.getElem?_cons_zero, List.getElem?_cons_succ] at y0 y1 y2 y3 y4 y5 y6 y7 y8 y9
                  go_wp2_with fail
                  refine (HC2.out _ _ _ Q2 B2).mono ?_
                  rintro e W9 ⟨rfl, Q9, B9⟩
                  have hM9 := hM
                  clear Q2 B2 hX2 HC1 HC2 y0 y1 y2 y3 y4 y5 y6 y7 y8 y9
                  obtain ⟨mg2, mc2, rfl, hmc2, hmm2, hmB2, hml2⟩ := Q9.mform
                  unfold maxLen at hmm2
                  go_wp2_with fail
                  go_meet
                  exact ⟨M, V2, K2, ⟨_, _, _, _, _, Q9, B9⟩, hM9, HL9⟩
              · as_aux_lemma =>
                  obtain ⟨x, o, E, C1, C2⟩ := doBFind Q1 a a0 a1 (by omega)
                  have HC1 := Lib.hid C1
                  have HC2 := Lib.hid C2
                  have zE : (E != E) = false := by simp
                  have zo : (o != o) = false := by simp
                  obtain ⟨xb, xs, xn⟩ := x
                  simp only at HC1 HC2
                  have zb : (xb == xb) = true := by simp
                  have zs : (xs == xs) = true := by simp
                  clear C1 C2
                  go_wp2_with fail
                  refine HC1.out.mono ?_
                  rintro e W2 ⟨rfl, hb2⟩
                  have hD := blk_new W2 (.cells #[.int .u32 xb, .int .u32 xs, .int .i64 xn] 67 (0, 0))
                  have hb3 := tr hb2 (trA (tr0 W2) (.cells #[.int .u32 xb, .int .u32 xs, .int .i64 xn] 67 (0, 0)))
                  have Q2 := Q1.below hb3
                  have B2 := tr B1 hb3
                  have hX2 := blk_below hb3 hX hwl
                  clear Q1 B1 hb2 hb3 hX y0 y1 y2 y3 y4 y5 y6 y7 y8 y9
                  go_upto_region 32 with (fail)
                  generalize W2.alloc (.cells #[.int .u32 xb, .int .u32 xs, .int .i64 xn] 67 (0, 0)) = W3 at *
                  generalize W2.heap.size = dd at *
                  have y0 := blk_cell hX2 0
                  have y1 := blk_cell hX2 1
                  have y2 := blk_cell hX2 2
                  have y3 := blk_cell hX2 3
                  have y4 := blk_cell hX2 4
                  have y5 := blk_cell hX2 5
                  have y6 := blk_cell hX2 6
                  have y7 := blk_cell hX2 7
                  have y8 := blk_cell hX2 8
                  have y9 := blk_cell hX2 9
                  simp only [List.getElem?_toArray, List.getElem?_cons_zero, List.getElem?_cons_succ] at y0 y1 y2 y3 y4 y5 y6 y7 y8 y9
                  go_wp2_with fail
                  refine (HC2.out _ Q2.bus).mono ?_
                  rintro e W4 ⟨rfl, hb4⟩
                  have hD4 := blk_below hb4 hD (lt_of_block hD)
                  have hb5 := tr hb4 (trA (tr0 W4) (.cells #[.int .u32 xb, .int .u32 xs] 55 (0, 0)))
                  have hR5 := blk_new W4 (.cells #[.int .u32 xb, .int .u32 xs] 55 (0, 0))
                  have hD5 := blk_below (trA (tr0 W4) (.cells #[.int .u32 xb, .int .u32 xs] 55 (0, 0))) hD4 (lt_of_block hD4)
                  have Q9 := Q2.below hb5
                  have B9 := tr B2 hb5
                  clear Q2 B2 hb4 hb5 hD hD4 hX2 y0 y1 y2 y3 y4 y5 y6 y7 y8 y9
                  go_upto_region 33 with (fail)
                  generalize W4.alloc (.cells #[.int .u32 xb, .int .u32 xs] 55 (0, 0)) = W9 at *
                  generalize W4.heap.size = rr at *
                  have d0 := blk_cell hD5 0
                  have d1 := blk_cell hD5 1
                  have e0 := blk_cell hR5 0
                  have e1 := blk_cell hR5 1
                  simp only [List.getElem?_toArray, List.getElem?_cons_zero, List.getElem?_cons_succ] at d0 d1 e0 e1
                  have hM9 := hM
                  have HL9 : Hid (∀ i, i < 6 → (L i).length ≤ k + 1) := Lib.hid (fun i hi => Nat.le_succ_of_le (HL.out i hi))
                  go_wp2_with fail
                  go_meet
                  exact ⟨M, V, L, ⟨_, _, _, _, _, Q9, B9⟩, hM9, HL9⟩
              · as_aux_lemma =>
                  have hM9 := hM
                  have d0 : W.cell? ⟨mg, j, none⟩ = some (V j) := by
                    have h1 := Q1.ms
                    rw [show (6 : Nat) = (six V).length from (six_len _).symm] at h1
                    exact h1.cell (six_at V hj)
                  have hml2 : mg < W.heap.size := (Q1.ms.block (b := mg) rfl).2
                  have hg := gcell
                  go_upto_region 36 with (fail)
                  go_cut [11] from 37 to 227 (fun s11 wx => ∃ (E : Int) (L2 : List (Int × Rg)) (vy : Option Addr) (vl vc : Nat), s11 = .int .i64 E ∧ Bst wx w.heap.size (w.heap.size + 1) w.heap.size F Mb rv R ks pv Lp u4 M M (.slice (some ⟨fg, 0, none⟩) 6 fc) (.slice (some ⟨mg, 0, none⟩) 6 mc) (updV V j (.slice vy vl vc)) L (updF L j L2) ∧ Below w.heap.size w wx ∧ wx.heap[q]? = some (.cells #[.int .i64 4, .int .u32 b, .int .u32 s, .int .i64 N, .int .u32 a, .int .u32 v, .int .u32 r.v, .int .u32 r.s, .int .u32 r.r, .int .u32 r.c] 57 (0, 0)) ∧ L2.length ≤ (L j).length + 1 ∧ DefW w.heap.size (F j) (Mb j) a r (L j) L2 E)
                  case first =>
                    as_aux_lemma =>
                      refine wp_region_any (by kernel_rfl) ?_
                      try (change wpAny _ _ _ _ _ _ _ (World.drew _))
                      refine wpAny_take (i := 0) (v := .slice (some ⟨mg, 0, none⟩) 6 mc) rfl (by as_aux_lemma => kernel_rfl) (by as_aux_lemma => kernel_rfl) (by as_aux_lemma => kernel_rfl) (fun _ _ _ h => h) (Or.inl ⟨by kernel_rfl, fun w => by go_simp⟩) ?_
                      refine wpAny_take (i := 1) (v := .int .i64 j) rfl (by as_aux_lemma => kernel_rfl) (by as_aux_lemma => kernel_rfl) (by as_aux_lemma => kernel_rfl) (fun _ _ _ h => h) (Or.inl ⟨by kernel_rfl, fun w => by go_simp⟩) ?_
                      go_simp
                      refine wpAny_max_pick [2, 3, 4, 5, 6, 7, 8, 9] [10, 11, 12, 13, 14, 15, 16] (by as_aux_lemma => kernel_rfl) rfl (by as_aux_lemma => kernel_rfl) (by intro _ _ d _ _ h; cases d <;> exact h) ?_
                      simp only [pick, List.getElem?_cons_zero, List.getElem?_cons_succ]
                      repeat (go_big_quiet_step (fail))
                      refine wpQuiet_nil ?_
                      intro _ hw'
                      obtain ⟨⟨dq, osq⟩, hw''⟩ := hw'
                      subst hw''
                      have hbr := below_regrown W dq osq
                      have Q2 := Q1.below hbr
                      have B2 := tr B1 hbr
                      have hX2 := blk_below hbr hX hwl
                      clear Q1 B1 hX hbr d0 hg hml2 y0 y1 y2 y3 y4 y5 y6 y7 y8 y9
                      dsimp only at Q2 B2 hX2 ⊢
                      generalize grow (redrawn W dq) osq = W4 at *
                      obtain ⟨E, L2, hL2, C1, C2⟩ := doDefine a r hr a0 a1 (Q2.fr j hj) (hLL j hj)
                      unfold Rg.val at C1 C2
                      go_wp2_with fail
                      refine C1.mono ?_
                      rintro e W2 ⟨v', rfl, fr2, hb2⟩
                      obtain ⟨vy, vl, vc, rfl⟩ : ∃ y l c, v' = .slice y l c := by
                        rcases fr2.O.cases with ⟨h1, _⟩ | ⟨g, cp, h1, _⟩
                        · exact ⟨_, _, _, h1⟩
                        · exact ⟨_, _, _, h1⟩
                      have Q3 := Q2.below hb2
                      have B3 := tr B2 hb2
                      have hX3 := blk_below hb2 hX2 (lt_of_block hX2)
                      have Q4 := Q3.model hj fr2
                      obtain ⟨mcur, hmg⟩ := Q3.ms.ty (b := mg) rfl
                      have B4 := B3.setCell (p := ⟨mg, j, none⟩) (by exact hmB) (.slice vy vl vc)
                      have hX4 := blk_else hX3 mg j (.slice vy vl vc) (apart_types hX3 hmg rfl)
                      have d1 : W2.cell? ⟨mg, j, none⟩ = some (V j) := by
                        have h1 := Q3.ms
                        rw [show (6 : Nat) = (six V).length from (six_len _).symm] at h1
                        exact h1.cell (six_at V hj)
                      have f1 := blk_free hmg j
                      have hZ := Lib.hid (And.intro Q4 (And.intro B4 (And.intro hX4 (And.intro hL2 C2))))
                      clear Q2 Q3 Q4 B2 B3 B4 hb2 hX2 hX3 hX4 hmg fr2 C1 C2 hL2
                      go_wp2_with fail
                      go_meet
                      obtain ⟨z1, z2, z3, z4, z5⟩ := hZ.out
                      exact ⟨E, L2, vy, vl, vc, rfl, z1, z2, z3, z4, z5⟩
                  case rest =>
                    obtain ⟨E, L2, vy, vl, vc, rfl, Q4, B4, hX4, hL2, hC2⟩ := hcut
                    have HC2 := Lib.hid hC2
                    have zE : (E != E) = false := by simp
                    have HL9 : Hid (∀ i, i < 6 → (updF L j L2 i).length ≤ k + 1) := Lib.hid (fun i hi => by
                      by_cases e : i = j
                      · subst e; rw [updF_same]; have := HL.out i hi; omega
                      · rw [updF_else _ _ e]; exact Nat.le_succ_of_le (HL.out i hi))
                    clear Q1 B1 hX hwl d0 hg hml2 hC2 hL2 y0 y1 y2 y3 y4 y5 y6 y7 y8 y9
                    generalize wc = W5 at *
                    go_upto_region 37 with (fail)
                    go_cut [190] from 37 to 227 (fun s190 wx => s190 = .bool false ∧ Bst wx w.heap.size (w.heap.size + 1) w.heap.size F Mb rv R ks pv Lp u4 M M (.slice (some ⟨fg, 0, none⟩) 6 fc) (.slice (some ⟨mg, 0, none⟩) 6 mc) (updV V j (.slice vy vl vc)) (updF L j L2) (updF L j L2) ∧ Below w.heap.size w wx)
                    case first =>
                      as_aux_lemma =>
                        have c0 : W5.cell? ⟨fg, j, none⟩ = some (.pointer (some ⟨F j, 0, none⟩)) := by
                          have h1 := Q4.fs
                          rw [show (6 : Nat) = (six (ptF F)).length from (six_len _).symm] at h1
                          exact h1.cell (six_at (ptF F) hj)
                        have y0 := blk_cell hX4 0
                        have y1 := blk_cell hX4 1
                        have y2 := blk_cell hX4 2
                        have y3 := blk_cell hX4 3
                        have y4 := blk_cell hX4 4
                        have y5 := blk_cell hX4 5
                        have y6 := blk_cell hX4 6
                        have y7 := blk_cell hX4 7
                        have y8 := blk_cell hX4 8
                        have y9 := blk_cell hX4 9
                        simp only [List.getElem?_toArray, List.getElem?_cons_zero, List.getElem?_cons_succ] at y0 y1 y2 y3 y4 y5 y6 y7 y8 y9
                        have hwl5 := lt_of_block hX4
                        have hfl5 : fg < W5.heap.size := (Q4.fs.block (b := fg) rfl).2
                        have hg := gcell
                        refine wp_region_any (by kernel_rfl) ?_
                        try (change wpAny _ _ _ _ _ _ _ (World.drew _))
                        refine wpAny_take (i := 9) (v := .int .i64 E) rfl (by as_aux_lemma => kernel_rfl) (by as_aux_lemma => kernel_rfl) (by as_aux_lemma => kernel_rfl) (fun _ _ _ h => h) (Or.inl ⟨by kernel_rfl, fun w => by go_simp⟩) ?_
                        go_simp
                        refine wpAny_max_pick [0, 1, 2, 3, 4, 5, 6, 7] [8, 10] (by as_aux_lemma => kernel_rfl) rfl (by as_aux_lemma => kernel_rfl) (by intro _ _ d _ _ h; cases d <;> exact h) ?_
                        simp only [pick, List.getElem?_cons_zero, List.getElem?_cons_succ]
                        repeat (go_big_quiet_step (fail))
                        refine wpQuiet_nil ?_
                        intro _ hw'
                        obtain ⟨⟨dq, osq⟩, hw''⟩ := hw'
                        subst hw''
                        have hbr := below_regrown W5 dq osq
                        have Q6 := Q4.below hbr
                        have B6 := tr B4 hbr
                        clear Q4 B4 hX4 hbr c0 hg hwl5 hfl5 y0 y1 y2 y3 y4 y5 y6 y7 y8 y9
                        dsimp only at Q6 B6 ⊢
                        generalize grow (redrawn W5 dq) osq = W6 at *
                        have fr6 := Q6.fr j hj
                        rw [updF_same, updV_same] at fr6
                        go_wp2_with fail
                        refine (HC2.out _ _ fr6).mono ?_
                        rintro e W9 ⟨rfl, fr9, ho9⟩
                        have Q9 := Q6.file hj ho9 (L' := L2) (by rw [updF_same, updV_same]; exact fr9)
                        have B9 := Off.toBelow B6 ho9 (fun i hi e => by subst e; have := fr6.hm; omega) (Nat.le_refl _)
                        clear Q6 B6 fr6 fr9 ho9 HC2
                        go_wp2_with fail
                        go_meet
                        exact ⟨rfl, Q9, B9⟩
                    case rest =>
                      obtain ⟨rfl, Q9, B9⟩ := hcut
                      clear Q4 B4 hX4 HC2
                      generalize wc = W9 at *
                      go_wp2_with fail
                      go_meet
                      exact ⟨M, (updV V j (.slice vy vl vc)), (updF L j L2), ⟨_, _, _, _, _, Q9, B9⟩, hM9, HL9⟩
              · as_aux_lemma =>
                  go_upto_region 39 with (fail)
                  have Q9 := Q1
                  have B9 := B1
                  have hM9 := hM
                  have HL9 : Hid (∀ i, i < 6 → (L i).length ≤ k + 1) := Lib.hid (fun i hi => Nat.le_succ_of_le (HL.out i hi))
                  clear Q1 B1 hX y0 y1 y2 y3 y4 y5 y6 y7 y8 y9
                  go_wp2_with fail
                  go_meet
                  exact ⟨M, V, L, ⟨_, _, _, _, _, Q9, B9⟩, hM9, HL9⟩
            case rest =>
              as_aux_lemma =>
                obtain ⟨M9, V9, L9, ⟨rv9, R9, ks9, pv9, Lp9, Q9, B9⟩, hM9, HL9⟩ := hcut
                obtain ⟨mg9, mc9, hmv9, hmc9, hmm9, hmB9, hml9⟩ := Q9.mform
                subst hmv9
                unfold maxLen at hmm9
                clear Q1 B1 hX y0 y1 y2 y3 y4 y5 y6 y7 y8 y9
                generalize wc = W9 at *
                have hRl : R9.length ≤ 64 := by rw [Q9.rel.len]; exact hM9
                have RG := Lib.hid (uRegions (w.heap.size + 1) w.heap.size _ R9 _ _ _ W9 Q9.bus hRl)
                go_wp2_with fail
                refine RG.out.mono ?_
                rintro e W10 ⟨⟨rv3, rfl, hR3⟩, hb10⟩
                have Q10 := Q9.below hb10
                have B10 := tr B9 hb10
                have hB3 : w.heap.size ≤ W9.heap.size := Q9.hB
                clear Q9 B9 hb10 RG
                obtain ⟨ry, rc, rfl, hry⟩ := rForm hR3
                obtain ⟨ly, lc, rfl, hly⟩ := lForm Q10.reg
                have hrr := Q10.rel.rr
                have hlen := Q10.rel.len
                rw [hlen] at hR3 hry ⊢
                have HRY := Lib.hid hry
                have HLY := Lib.hid hly
                have HRR := Lib.hid hrr
                have zl : ((M9.length : Int) != (M9.length : Int)) = false := by simp
                clear hry hly hrr hlen hRl
                go_wp2_with fail
                go_loopw [23] (fun i wr => ∃ jj : Nat, jj ≤ M9.length ∧ i = .int .i64 jj ∧ Bst wr w.heap.size (w.heap.size + 1) w.heap.size F Mb rv9 R9 ks9 pv9 Lp9 _ M9 M9 _ _ V9 L9 L9 ∧ OwnR wr W9.heap.size _ R9 ∧ Below w.heap.size w wr) (fun i wr => M9.length - (intOf i).toNat)
                case atStart => exact ⟨0, by omega, rfl, Q10, hR3, B10⟩
                case round =>
                  clear Q10 hR3 B10
                  obtain ⟨t, ht, rfl, Q, RO, hB⟩ := hrel
                  by_cases htl : t < M9.length
                  · rcases HRY.out with h0 | ⟨rg, rfl, hrc, hrm, _⟩
                    · omega
                    rcases HLY.out with h0 | ⟨lg, rfl, hlc2, hlm2, _⟩
                    · omega
                    unfold maxLen at hrm hlm2
                    obtain ⟨x, hx⟩ : ∃ x, M9[t]? = some x := ⟨M9[t], List.getElem?_eq_getElem htl⟩
                    have hxr : R9[t]? = some (x.b, x.s) := by rw [HRR.out, List.getElem?_map, hx]; rfl
                    have RO' : OwnR wr W9.heap.size (.slice (some ⟨rg, 0, none⟩) R9.length rc) R9 := by rw [Q.rel.len]; exact RO
                    have c0 := row_cell (f := regCells) (n := 2) (fun _ => rfl) RO' rfl hxr 0 (by decide)
                    have c1 := row_cell (f := regCells) (n := 2) (fun _ => rfl) RO' rfl hxr 1 (by decide)
                    have d0 := Q.reg.cell hx 0 (by decide)
                    have d1 := Q.reg.cell hx 1 (by decide)
                    simp only [regCells, sl, List.getElem?_cons_zero, List.getElem?_cons_succ, Nat.add_zero] at c0 c1 d0 d1
                    have hrgl : rg < wr.heap.size := (World.ownsRow.lt RO' rg rfl).2
                    have hlgl : lg < wr.heap.size := (Q.reg.block (b := lg) rfl).2
                    obtain ⟨xb, xs, xn⟩ := x
                    simp only at c0 c1 d0 d1
                    have zb : (xb == xb) = true := by simp
                    have zs : (xs == xs) = true := by simp
                    have hg := gcell
                    have HQ := Lib.hid Q
                    have HO := Lib.hid RO
                    have HB := Lib.hid hB
                    clear Q RO RO' hB hx hxr
                    go_wp2_with fail
                    refine wp_region_quiet_below (by kernel_rfl) (by kernel_rfl) ?_
                    repeat (go_big_quiet_step (fail))
                    refine wpQuiet_nil ?_
                    intro _ hw'
                    obtain ⟨⟨dq, osq⟩, hw''⟩ := hw'
                    subst hw''
                    have hbr := below_regrown wr dq osq
                    have Q2 := HQ.out.below hbr
                    have B2 := tr HB.out hbr
                    have O2 : OwnR _ W9.heap.size _ R9 := row_keep HO.out fun g hg2 => hbr.block g (World.ownsRow.lt HO.out g hg2).2
                    clear c0 c1 d0 d1 hg hrgl hlgl HQ HB HO hbr
                    go_wp2_with fail
                    go_roundw
                    case measure => simp [intOf]; omega
                    case rel => exact ⟨t + 1, by omega, by go_num, Q2, O2, B2⟩
                  · clear RO
                    go_wp2_with fail
                    go_loopw [24] (fun i wr => ∃ t : Nat, t ≤ 6 ∧ i = .int .i64 t ∧ Bst wr w.heap.size (w.heap.size + 1) w.heap.size F Mb rv9 R9 ks9 pv9 Lp9 _ M9 M9 _ _ V9 L9 L9 ∧ Below w.heap.size w wr) (fun i wr => 6 - (intOf i).toNat)
                    case atStart => exact ⟨0, by omega, rfl, Q, hB⟩
                    case round =>
                      clear Q hB
                      obtain ⟨t2, ht2, rfl, Q, hB⟩ := hrel
                      by_cases htl2 : t2 < 6
                      · have hfl3 : fg < wr.heap.size := (Q.fs.block (b := fg) rfl).2
                        have hml3 : mg9 < wr.heap.size := (Q.ms.block (b := mg9) rfl).2
                        have c0 : wr.cell? ⟨fg, t2, none⟩ = some (.pointer (some ⟨F t2, 0, none⟩)) := by
                          have h1 := Q.fs
                          rw [show (6 : Nat) = (six (ptF F)).length from (six_len _).symm] at h1
                          exact h1.cell (six_at (ptF F) htl2)
                        have d0 : wr.cell? ⟨mg9, t2, none⟩ = some (V9 t2) := by
                          have h1 := Q.ms
                          rw [show (6 : Nat) = (six V9).length from (six_len _).symm] at h1
                          exact h1.cell (six_at V9 htl2)
                        have hl2 : (L9 t2).length < 100000 := by have := HL9.out t2 htl2; omega
                        have hg := gcell
                        have HQ := Lib.hid Q
                        have HB := Lib.hid hB
                        clear Q hB
                        go_wp2_with fail
                        refine wp_region_quiet_below (by kernel_rfl) (by kernel_rfl) ?_
                        repeat (go_big_quiet_step (first | (go_at_call 17; exact Calls.regrown_of (AL.out _ _ _ _ _ _ ((HQ.out.below (below_regrown wr _ _)).fr t2 htl2) hl2))))
                        refine wpQuiet_nil ?_
                        intro _ hw'
                        obtain ⟨⟨dq, osq⟩, hw''⟩ := hw'
                        subst hw''
                        have hbr := below_regrown wr dq osq
                        have Q2 := HQ.out.below hbr
                        have B2 := tr HB.out hbr
                        clear c0 d0 hg HQ HB hbr hfl3 hml3
                        go_wp2_with fail
                        go_roundw
                        case measure => simp [intOf]; omega
                        case rel => exact ⟨t2 + 1, by omega, by go_num, Q2, B2⟩
                      · go_wp2_with fail
                        go_roundw
                        case measure => simp [intOf]; omega
                        case rel => exact ⟨k + 1, M9, V9, L9, by omega, by omega, by go_num, ⟨_, _, _, _, _, Q, hB⟩, hM9, HL9⟩
        · by_cases hlt2 : k < len
          all_goals
            go_wp2_with fail
            refine (zknown _).mono ?_
            rintro e w1 ⟨rfl, hb1⟩
            go_wp2_with fail
            go_ret
            exact ⟨rfl, tr hB hb1⟩
end Go.Proofs.Ytafegmmcgghgaaa.B
