/- A part of the proof of a law of layer 12: ay. -/
import Derived.Test.YtaohacadochldaaGreatZCax
set_option linter.unusedVariables false
set_option linter.unusedSimpArgs false
set_option maxHeartbeats 12800000
set_option maxRecDepth 100000
namespace Go.Proofs.YtaohacadochldaaGreat.B
open Go.Proofs.Tryz
open List renaming getElem?_toArray -> y0q, getElem?_cons_zero -> y1q
open Go.RowKit Go.Sort Go.ChangeShapes Go.WideShapes
def aD4 (md : Region.Mode) (ops : Array Oper) (n : Nat) : Bool :=
 (List.range ops.size).all fun t => decide (t <= n) || (List.range t).any fun j => decide (n <= j) && Region.waitsFor md ops t j
def aG7 (ops : Array Oper) (k : Nat) : Bool :=
 match ops[k]? with
 | some o => o.guard.isNone && (match o.op with | .move _ | .assign _ | .extract _ _ => true | _ => false)
 | none => false
def aEi (md : Region.Mode) (ops : Array Oper) : Nat -> Nat -> Array Bool -> Bool
 | 0, _, done => (Region.ready md ops done).isEmpty
 | g + 1, k, done => (decide (Region.ready md ops done = [k]) || ((Region.ready md ops done).contains k && Region.free md ops done k && aG7 ops k)) && aEi md ops g (k + 1) (done.setIfInBounds k true)
def uI (md : Region.Mode) (ops : Array Oper) (g : Nat) : Nat -> Nat -> Array Bool -> Bool
 | 0, k, done => (Region.ready md ops done).all (fun j => decide (k <= j)) && aEi md ops g k done
 | f + 1, k, done => (Region.ready md ops done).contains k && Region.free md ops done k && uI md ops g f (k + 1) (done.setIfInBounds k true)
def aAE (md : Region.Mode) (ops : Array Oper) (n : Nat) : Bool :=
 Region.noSelect ops && decide (n < ops.size) && Region.sinkB md ops n && aD4 md ops n && uI md ops (ops.size - n) n 0 (Array.replicate ops.size false)
section
variable {P : Program} {ops : Array Oper} {md : Region.Mode} {C : World -> Prop}
theorem aDC {n : Nat} {listed : Array Bool} (hs : Region.sinkB md ops n = true) (hc : aD4 md ops n = true) (hn : n < ops.size) (inv : HeadInv md ops n listed) :
 ∀ (d i : Nat), n - i = d -> i < n -> listed.getD i true = false -> ∀ t, n <= t -> t ∉ Region.ready md ops listed := by
 intro d
 induction d using Nat.strongRecOn with
 | _ d ih =>
   intro i hd hi hun t ht hr
   obtain ⟨_, ot, hot, hall⟩ := mem_ready.1 hr
   have htlt : t < ops.size := (Array.getElem?_eq_some_iff.1 hot).1
   by_cases htn : t = n
   . subst htn
     have h1 := List.all_eq_true.1 hs i (List.mem_range.2 hi)
     obtain ⟨j, hj, hj2⟩ := List.any_eq_true.1 h1
     simp only [Bool.and_eq_true, decide_eq_true_eq] at hj2
     obtain ⟨oj, hoj, e, he, hb, hon⟩ := Region.waitsFor_spec hj2.2
     have hjle : j <= t := by have := List.mem_range.1 hj; omega
     by_cases hjt : j = t
     . subst hjt
       have : oj = ot := Option.some.inj (hoj.symm.trans hot)
       subst this
       have h2 := hall e he hb
       rw [hon, getD_both hun] at h2
       cases h2
     . cases hl : listed.getD j false with
       | true =>
         have h2 := inv.closed j oj hoj hl e he hb
         rw [hon, getD_both hun] at h2
         cases h2
       | false =>
         have hjs : j < listed.size := by rw [inv.size]; omega
         exact ih (t - j) (by omega) j rfl (by omega) (getD_in hjs hl) t (Nat.le_refl _) hr
   . have h1 := List.all_eq_true.1 hc t (List.mem_range.2 htlt)
     simp only [Bool.or_eq_true, decide_eq_true_eq] at h1
     rcases h1 with h1 | h1
     . omega
     . obtain ⟨j, hj, hj2⟩ := List.any_eq_true.1 h1
       simp only [Bool.and_eq_true, decide_eq_true_eq] at hj2
       have hjt := List.mem_range.1 hj
       obtain ⟨o', ho', e, he, hb, hon⟩ := Region.waitsFor_spec hj2.2
       have : o' = ot := Option.some.inj (ho'.symm.trans hot)
       subst this
       have h2 := hall e he hb
       rw [hon, getD_both (inv.tail j hj2.1 (by omega))] at h2
       cases h2
theorem vB {α : Type} (x : α) (w : World) : ((pure x : Sem α).runT P w #[]).2 = #[] := rfl
theorem xK {P : Prop} (h : P := by
 rcases h with h | ⟨h, _⟩
 . unfold Oper.wp at h
   rw [hr w] at h
   exact ⟨_, .inl ⟨hw, hr⟩, h⟩
 . have := h.1
   unfold execOp at this
   rw [hx] at this
   simp only [vB] at this
   simp at this
 ) : P := h
theorem aBR {Q : Exit -> Act -> World -> Prop} {k : Nat} {o : Oper} {rest : List Oper} {a : Act} {w : World} (ho : ops[k]? = some o) (hp : aG7 ops k = true) (h : wpList P ops Q (o :: rest) a w) (hQ : ∀ c a d v w, Q (.panic c) (Act.put a d v) w -> Q (.panic c) a w) :
 ∃ v, Yields P ops o v a /\ wpList P ops Q rest (a.put o.dst v) w := by
 unfold aG7 at hp
 simp only [ho, Bool.and_eq_true] at hp
 obtain ⟨hg, hp⟩ := hp
 have hw : Region.wanted o (yielded ops a.tmps) = true := by
  have : o.guard = none := by simpa using hg
  simp [Region.wanted, this]
 unfold wpList at h
 rw [if_pos hw] at h
 split at hp
 . rename_i x hx
   have hr : ∀ w, (execOp a.eval o).run P w = .ok (.value (a.eval x)) w := BigFrame.run_move x hx
   exact xK
 . rename_i x hx
   have hr : ∀ w, (execOp a.eval o).run P w = .ok (.value (a.eval x)) w := BigFrame.run_assign x hx
   exact xK
 . rename_i x i hx
   have hE : execOp a.eval o = (do let y <- Instr.extract (a.eval x) i; pure (Next.value y)) := by
    unfold execOp
    rw [hx]
   unfold Oper.wp Oper.asks at h
   rw [hE] at h
   have key : ∀ u : Value, a.eval x = u -> ∃ v, Yields P ops o v a /\ wpList P ops Q rest (a.put o.dst v) w := by
    intro u hu
    rw [hu] at h
    by_cases ht : ∃ vs y, u = .tuple vs /\ vs[i]? = some y
    . obtain ⟨vs, y, rfl, hy⟩ := ht
      have hr : ∀ w, (execOp a.eval o).run P w = .ok (.value y) w := fun w => by
       rw [hE, hu]
       simp [Instr.extract, hy]
      refine ⟨y, .inl ⟨hw, hr⟩, ?_⟩
      rcases h with h | ⟨h, _⟩
      . simpa [Instr.extract, hy, Oper.upon] using h
      . have := h.1
        simp [Instr.extract, hy, vB] at this
        exact absurd (show noRoomEvent ∈ #[] from this) (by simp)
    . exfalso
      rcases h with h | ⟨h, _⟩
      . cases u
        case tuple vs =>
         cases hv : vs[i]? with
         | none => simp [Instr.extract, hv, stuck, Oper.upon] at h
         | some y => exact ht ⟨vs, y, rfl, hv⟩
        all_goals simp [Instr.extract, stuck, Oper.upon] at h
      . have := h.1
        cases u
        case tuple vs =>
         cases hv : vs[i]? with
         | none => simp [Instr.extract, hv, stuck] at this; exact absurd (show noRoomEvent ∈ #[] from this) (by simp)
         | some y => exact ht ⟨vs, y, rfl, hv⟩
        all_goals (simp [Instr.extract, stuck] at this; exact absurd (show noRoomEvent ∈ #[] from this) (by simp))
   exact key _ rfl
 . cases hp
theorem mC {Q' : Exit -> Act -> World -> Prop} (hsel : Region.noSelect ops = true) (hQ : ∀ c a d v w, Q' (.panic c) (Act.put a d v) w -> Q' (.panic c) a w) :
 ∀ (l : List Oper) (k : Nat) (listed : Array Bool) (a : Act) (w : World), (∀ j, l[j]? = ops[k + j]?) -> aEi md ops l.length k listed = true -> wpList P ops Q' l a w -> wpAny P md ops Q' l.length listed a w
 | [], _, _, _, _, _, hB, h => ⟨by simpa [aEi] using hB, h⟩
 | o :: l, k, listed, a, w, hl, hB, h => by
   have h0 : ops[k]? = some o := by simpa using (hl 0).symm
   simp only [List.length_cons, aEi, Bool.and_eq_true, Bool.or_eq_true, decide_eq_true_eq] at hB
   have hl' : ∀ j, l[j]? = ops[k + 1 + j]? := fun j => by have := hl (j + 1); simpa [Nat.add_assoc, Nat.add_comm 1 j] using this
   rcases hB.1 with h1 | ⟨⟨h1, h2⟩, h3⟩
   . refine ⟨fun h2 => (by rw [h1] at h2; cases h2), fun i hi => ?_⟩
     rw [h1] at hi
     have hik : i = k := by simpa using hi
     subst hik
     have hw : wpOp P ops Q' i (wpList P ops Q' l) a w := by unfold wpOp; simp only [h0]; exact h
     exact wpOp_mono (fun a' w' h' => mC hsel hQ l (i + 1) _ a' w' hl' hB.2 h') hw
   . obtain ⟨v, hy, h4⟩ := aBR h0 h3 h hQ
     exact wpAny_take h0 hsel h2 h1 (fun c a w => hQ c a _ _ w) hy (mC hsel hQ l (k + 1) _ _ w hl' hB.2 h4)
theorem aA5 {n i : Nat} {oi : Oper} {v : Value} {L : Array Bool -> Act -> Prop} (hi : ops[i]? = some oi) (hsel : ∀ (j : Nat) (o : Oper) cs b, ops[j]? = some o -> o.op ≠ .select cs b)
 (hs : Region.sinkB md ops n = true) (hc : aD4 md ops n = true) (hn : n < ops.size) (hin : i < n) (hdone : ∀ done a, L done a -> ∀ j ∈ Region.ready md ops done, n <= j) (f : Nat) :
 ∀ (done : Array Bool) (a : Act), HeadInv md ops n done ->
  (∀ j oj, ops[j]? = some oj -> j ≠ i -> done.getD j true = false -> (∀ e ∈ oj.after, Region.binds md e = true -> e.on ≠ i) -> oi.apart ops oj = true) ->
  i ∈ Region.ready md ops done -> YieldsIn P ops C oi v a -> sJ P md ops C n L f (done.setIfInBounds i true) (a.put oi.dst v) -> sJ P md ops C n L (f + 1) done a := by
 have below : ∀ done : Array Bool, HeadInv md ops n done -> i ∈ Region.ready md ops done -> ∀ j ∈ Region.ready md ops done, j < n := fun done inv hr j hj => by
  rcases Nat.lt_or_ge j n with h | h
  . exact h
  . exact absurd hj (aDC hs hc hn inv _ i rfl hin (mem_ready.1 hr).1 j h)
 induction f with
 | zero =>
   intro done a inv _ hr hy H
   refine ⟨fun h => (by rw [h] at hr; cases hr), fun j hj => ⟨below done inv hr j hj, ?_⟩⟩
   by_cases e : j = i
   . subst e; exact hy.qOp hi H
   . have := hdone _ _ H j (ready_mono hj e)
     have := below done inv hr j hj
     omega
 | succ f ih =>
   intro done a inv hfree hr hy H
   have hun := (mem_ready.1 hr).1
   refine ⟨fun h => (by rw [h] at hr; cases hr), fun j hj => ⟨below done inv hr j hj, ?_⟩⟩
   by_cases e : j = i
   . subst e; exact hy.qOp hi H
   . obtain ⟨hjun, oj, hoj, hall⟩ := mem_ready.1 hj
     have hnot : ∀ e ∈ oj.after, Region.binds md e = true -> e.on ≠ i := fun e he hb heq => by
      have h1 := hall e he hb
      rw [heq, getD_both hun] at h1
      cases h1
     have hstep := qOp_put hoj (hfree j oj hoj e hjun hnot) (fun cs b => hsel i oi cs b hi) (fun cs b => hsel j oj cs b hoj) hy (H.2 j (ready_mono hj e)).2
     refine qOp_mono (fun a' h3 => ih (done.setIfInBounds j true) a' (inv.set hj (below done inv hr j hj)) ?_ (ready_mono hr (Ne.symm e)) h3.1 ?_) hstep
     . intro k ok hk hki hku hno
       refine hfree k ok hk hki ?_ hno
       by_cases hjk : j = k
       . subst hjk; exact hjun
       . rwa [getD_set_ne true hjk] at hku
     . rw [Array.setIfInBounds_comm _ _ e]; exact h3.2
theorem aET {n g : Nat} {T : Act -> Prop} (hsel : Region.noSelect ops = true) (hs : Region.sinkB md ops n = true) (hc : aD4 md ops n = true) (hn : n < ops.size) (l : List Oper) :
 ∀ (k : Nat) (done : Array Bool) (a : Act), (∀ j, j < l.length -> l[j]? = ops[k + j]?) -> k + l.length = n -> HeadInv md ops n done ->
  uI md ops g l.length k done = true -> wpQuiet P ops C T l a -> sJ P md ops C n (fun done' a' => ((Region.ready md ops done').all (fun j => decide (n <= j)) = true /\ aEi md ops g n done' = true) /\ T a') l.length done a := by
 induction l with
 | nil =>
   intro k done a _ hk _ hB h
   obtain rfl : k = n := by simpa using hk
   exact ⟨by simpa [uI] using hB, h⟩
 | cons o l ih =>
   intro k done a hl hk inv hB h
   have h0 : ops[k]? = some o := by simpa using (hl 0 (by simp)).symm
   simp only [List.length_cons, uI, Bool.and_eq_true] at hB
   obtain ⟨⟨hr, hf⟩, hB'⟩ := hB
   have hkl : k + (l.length + 1) = n := by simpa using hk
   have hr' : k ∈ Region.ready md ops done := by simpa using hr
   have hq : qOp P ops C k (wpQuiet P ops C T l) a := by unfold qOp; simp only [h0]; exact h
   obtain ⟨v, hy, hK⟩ := yieldsIn_of_qOp h0 hq
   refine aA5 h0 (Region.noSelect_spec hsel) hs hc hn (by omega) (fun done' a' hL j hj => by simpa using List.all_eq_true.1 hL.1.1 j hj) l.length done a inv (Region.free_spec h0 hf) hr' hy ?_
   exact ih (k + 1) _ _ (fun j hj => by have := hl (j + 1) (by simpa using hj); simpa [Nat.add_assoc, Nat.add_comm 1 j] using this) (by omega) (inv.set hr' (by omega)) hB' hK
theorem vV {id : Nat} {Q : Exit -> Act -> World -> Prop} {a : Act} {w : World} {l : List Oper} (n : Nat) (hm : P.follows .mixedOrders = true) (hB : aAE .any l.toArray n = true)
 (hQ : ∀ c a d v w, Q (.panic c) (Act.put a d v) w -> Q (.panic c) a w)
 (hC : C { w with drawn := w.drawn + 1 }) (h : wpQuiet P l.toArray C (fun a' => ∀ w', C w' -> wpList P l.toArray Q (l.drop n) a' w') (l.take n) a) : (Code.region id l.toArray true).wp P Q a w := by
 simp only [aAE, Bool.and_eq_true, decide_eq_true_eq] at hB
 obtain ⟨⟨⟨⟨hsel, hn⟩, hs⟩, hc⟩, hlex⟩ := hB
 have hn' : n < l.length := by simpa using hn
 have htl : (l.take n).length = n := by simp; omega
 have hdl : (l.drop n).length = l.toArray.size - n := by simp
 have inv0 : HeadInv .any l.toArray n (Array.replicate l.toArray.size false) :=
  ⟨by simp, fun j oj _ hl => (by rw [getD_replicate_false] at hl; cases hl), fun t _ ht => getD_in (by simpa using ht) (getD_replicate_false _ _)⟩
 have H := aET (C := C) (md := .any) (g := l.toArray.size - n) hsel hs hc hn (l.take n) 0 _ a (fun j hj => by rw [htl] at hj; simp [hj]) (by simpa using htl) inv0 (by rw [htl]; exact hlex) h
 have key := sK (Q' := Q) (g := l.toArray.size - n) (fun done a' w' hw' hL => by
  have := mC (md := .any) (Q' := Q) hsel hQ (l.drop n) n done a' w' (fun j => by simp [List.getElem?_drop]) (by rw [hdl]; exact hL.1.2) (hL.2 w' hw')
  rwa [hdl] at this) _ _ _ _ hC H
 rw [htl, show n + (l.toArray.size - n) = l.toArray.size by omega] at key
 exact wp_region_any hm key
end
theorem cY {P : Program} {id : Nat} {Q : Exit -> Act -> World -> Prop} {a : Act} {w : World} {l : List Oper} (n : Nat) (hm : P.follows .mixedOrders = true) (hB : aAE .any l.toArray n = true)
 (hQ : ∀ c a d v w, Q (.panic c) (Act.put a d v) w -> Q (.panic c) a w)
 (h : wpQuiet P l.toArray (fun w' => ∃ p : Regrown, w' = grow (redrawn w p.d) p.os) (fun a' => ∀ w', (∃ p : Regrown, w' = grow (redrawn w p.d) p.os) -> wpList P l.toArray Q (l.drop n) a' w') (l.take n) a) : (Code.region id l.toArray true).wp P Q a w :=
 vV (C := fun w' => ∃ p : Regrown, w' = grow (redrawn w p.d) p.os) n hm hB hQ ⟨⟨w.drawn + 1, #[]⟩, by rw [grow_empty]; rfl⟩ h
def acV (p p2 : Pt) (V : Int) : Int := if p.dn = true then 0 else if p.pass.dn = true then 0 else if p2.dn = true then 0 else V
def acE (p p2 : Pt) (E : Int) : Int := if p.dn = true then 13 else if p.pass.dn = true then 13 else if p2.dn = true then 13 else E
def acS (p p2 : Pt) : Pt := if p.dn = true then p else if p.pass.dn = true then p.pass else p2
theorem bA.off {w w' : World} {q : Nat} {B : Bp} {p : Pt} {gv : Value} (L : bA q B p gv w w') : aF (fun k => k = q \/ B.own k) w w' := by obtain ⟨_, _, h, _⟩ := L; exact h
theorem mR {w w' : World} {q : Nat} {B : Bp} {p : Pt} {gv : Value} (H : aT w q B p gv) (ho : aF (fun k => k = q \/ B.own k) w w') {k : Nat} {cs : Array Value} {T : TypeId} {f : Nat × Nat} (h : w.heap[k]? = some (.cells cs T f)) (h1 : aAM (T + 1) = false) (h2 : (T == tPt) = false) : w'.heap[k]? = some (.cells cs T f) :=
 ho.at h fun e => by
  rcases e with e | e
  . exact aI h H.cell h2 e
  . have := H.bd.ownKd e; rw [bT h, h1] at this; cases this
theorem aKX (cv : Value) (q : Nat) (B : Bp) (p : Pt) (gv : Value) (m : Nat) (w : World) (H : aT w q B p gv) (ok : p.ok m) (hm : m < 4294967290) (h0 : p.dn = true) :
 Calls prog 67 #[.pointer (some ⟨q, 0, none⟩), cv] w fun e w' => e = .returned (.tuple #[.int .u32 0, .int .i64 13]) /\ bA q B p gv w w' := by
 have HD := Hd (uU q B p gv w H ok.td ok.se)
 rw [h0] at HD
 have HH := Hd H
 clear ok hm H h0
 go_enter func67, ntmps67
 go_wp2_with fail
 refine (HD.out).mono ?_
 rintro e w1 ⟨rfl, hb⟩
 have HX := Hd (HH.out.left hb)
 clear hb
 go_wp2_with fail
 go_ret2
 exact ⟨rfl, HX.out⟩
theorem aKY (cv : Value) (q : Nat) (B : Bp) (p : Pt) (gv : Value) (m : Nat) (w : World) (H : aT w q B p gv) (ok : p.ok m) (hm : m < 4294967290) (h0 : p.dn = false) (h1 : p.pass.dn = true) :
 Calls prog 67 #[.pointer (some ⟨q, 0, none⟩), cv] w fun e w' => e = .returned (.tuple #[.int .u32 0, .int .i64 13]) /\ bA q B p.pass gv w w' := by
 have HD := Hd (uU q B p gv w H ok.td ok.se)
 rw [h0] at HD
 have HP := Hd (fun w' h => aKb q B p gv m w' h ok hm)
 have hpo := Pt.pass_ok ok H.bd.still hm
 have HD2 := Hd (fun w' ev' (h : aT w' q { B with ev := ev' } p.pass gv) => uU q { B with ev := ev' } p.pass gv w' h hpo.td hpo.se)
 rw [h1] at HD2
 have HH := Hd H
 clear hpo ok hm H h0 h1
 go_enter func67, ntmps67
 go_wp2_with fail
 refine (HD.out).mono ?_
 rintro e w1 ⟨rfl, hb⟩
 have HO := Hd (aF.ofBelow (S := fun k => k = q \/ B.own k) hb)
 have HH1 := Hd (HH.out.below hb)
 clear hb HD
 go_wp2_with fail
 refine (HP.out _ HH1.out).mono ?_
 rintro e w2 ⟨rfl, hL⟩
 have HL := Hd (bA.from HO.out hL)
 clear hL HH1 HO HP
 go_wp2_with fail
 obtain ⟨ev2, h2, ho2, he2⟩ := HL.out
 refine (HD2.out _ _ h2).mono ?_
 rintro e w3 ⟨rfl, hb⟩
 have HX := Hd (HL.out.below hb)
 have HH3 := Hd (h2.below hb)
 have HO3 := Hd (ho2.trans (aF.ofBelow hb))
 have HE3 := Hd he2
 clear hb h2 ho2 he2 HD2 HL
 go_wp2_with fail
 go_ret2
 exact ⟨rfl, HX.out⟩
theorem xJ {P : Prop} (h : P := by
 cases D
 all_goals
  have HD := Hd (uU q B p gv w H ok.td ok.se)
  rw [h0] at HD
  have HP := Hd (fun w' h => aKb q B p gv m w' h ok hm)
  have hpo := Pt.pass_ok ok H.bd.still hm
  have HD2 := Hd (fun w' ev' (h : aT w' q { B with ev := ev' } p.pass gv) => uU q { B with ev := ev' } p.pass gv w' h hpo.td hpo.se)
  rw [h1] at HD2
  have HH := Hd H
  have hq2 := H2 h0 h1
  have HFF := Hd (fun w1 ev1 => HF.out w1 ev1 h0 h1)
  have HD3 := Hd (fun w' C (h : aT w' q C p2 gv) => uU q C p2 gv w' h hq2.1 hq2.2)
  rw [h2] at HD3
  clear H2 HF hq2 h2
  clear hpo ok hm H h0 h1
  go_enter func67, ntmps67
  go_wp2_with fail
  refine (HD.out).mono ?_
  rintro e w1 ⟨rfl, hb⟩
  have HO := Hd (aF.ofBelow (S := fun k => k = q \/ B.own k) hb)
  have HH1 := Hd (HH.out.below hb)
  clear hb HD
  go_wp2_with fail
  refine (HP.out _ HH1.out).mono ?_
  rintro e w2 ⟨rfl, hL⟩
  have HL := Hd (bA.from HO.out hL)
  clear hL HH1 HO HP
  go_wp2_with fail
  obtain ⟨ev2, h2, ho2, he2⟩ := HL.out
  refine (HD2.out _ _ h2).mono ?_
  rintro e w3 ⟨rfl, hb⟩
  have HX := Hd (HL.out.below hb)
  have HH3 := Hd (h2.below hb)
  have HO3 := Hd (ho2.trans (aF.ofBelow hb))
  have HE3 := Hd he2
  clear hb h2 ho2 he2 HD2 HL
  go_wp2_with fail
  refine (HFF.out _ ev2 HO3.out HH3.out).mono ?_
  rintro e w4 ⟨rfl, hL⟩
  obtain ⟨ev4, h4, ho4, he4⟩ := hL
  have HX4 := Hd (bA.andThen HO3.out HE3.out ⟨ev4, h4, ho4, he4⟩)
  have HH4 := Hd h4
  clear h4 ho4 he4 HH3 HFF HX HO3 HE3
  go_wp2_with fail
  refine (HD3.out _ _ HH4.out).mono ?_
  rintro e w5 ⟨rfl, hb⟩
  have HX5 := Hd (HX4.out.below hb)
  clear hb HX4 HH4 HD3
  go_wp2_with fail
  go_ret2
  exact ⟨rfl, HX5.out⟩
 ) : P := h
theorem aMR (q : Nat) (B : Bp) (p : Pt) (gv : Value) (m : Nat) (x y : Nat) (V E : Int) (p2 : Pt) (w : World) (H : aT w q B p gv) (ok : p.ok m) (hm : m < 4294967290)
 (H2 : p.dn = false -> p.pass.dn = false -> p2.x.told /\ p2.se <= p2.x.es.length)
 (HF : Hid (∀ w1 ev1, p.dn = false -> p.pass.dn = false -> aF (fun k => k = q \/ B.own k) w w1 -> aT w1 q { B with ev := ev1 } p.pass gv -> Calls prog 72 #[.pointer (some ⟨x, 0, none⟩), .pointer (some ⟨y, 0, none⟩)] w1 fun e w' => e = .returned (.tuple #[.int .u32 V, .int .i64 E]) /\ bA q { B with ev := ev1 } p2 gv w1 w')) (D : Bool) (h0 : p.dn = false) (h1 : p.pass.dn = false) (h2 : p2.dn = D) :
 Calls prog 67 #[.pointer (some ⟨q, 0, none⟩), .func (.func 72) #[] #[.pointer (some ⟨x, 0, none⟩), .pointer (some ⟨y, 0, none⟩)]] w fun e w' => e = .returned (.tuple #[.int .u32 (cond D 0 V), .int .i64 (cond D 13 E)]) /\ bA q B p2 gv w w' := by
 exact xJ
theorem aOZ (q : Nat) (B : Bp) (p : Pt) (gv : Value) (m : Nat) (x y : Nat) (V E : Int) (p2 : Pt) (w : World) (H : aT w q B p gv) (ok : p.ok m) (hm : m < 4294967290)
 (H2 : p.dn = false -> p.pass.dn = false -> p2.x.told /\ p2.se <= p2.x.es.length)
 (HF : Hid (∀ w1 ev1, p.dn = false -> p.pass.dn = false -> aF (fun k => k = q \/ B.own k) w w1 -> aT w1 q { B with ev := ev1 } p.pass gv -> Calls prog 72 #[.pointer (some ⟨x, 0, none⟩), .pointer (some ⟨y, 0, none⟩)] w1 fun e w' => e = .returned (.tuple #[.int .u32 V, .int .i64 E]) /\ bA q { B with ev := ev1 } p2 gv w1 w')) :
 Calls prog 67 #[.pointer (some ⟨q, 0, none⟩), .func (.func 72) #[] #[.pointer (some ⟨x, 0, none⟩), .pointer (some ⟨y, 0, none⟩)]] w fun e w' => e = .returned (.tuple #[.int .u32 (acV p p2 V), .int .i64 (acE p p2 E)]) /\ bA q B (acS p p2) gv w w' := by
 unfold acV acE acS
 cases h0 : p.dn
 . cases h1 : p.pass.dn
   . have := aMR q B p gv m x y V E p2 w H ok hm H2 HF _ h0 h1 rfl
     cases h2 : p2.dn <;> rw [h2] at this <;> exact this
   . exact aKY _ q B p gv m w H ok hm h0 h1
 . exact aKX _ q B p gv m w H ok hm h0
theorem aMS (q : Nat) (B : Bp) (p : Pt) (gv : Value) (m : Nat) (x y z : Nat) (V E : Int) (p2 : Pt) (w : World) (H : aT w q B p gv) (ok : p.ok m) (hm : m < 4294967290)
 (H2 : p.dn = false -> p.pass.dn = false -> p2.x.told /\ p2.se <= p2.x.es.length)
 (HF : Hid (∀ w1 ev1, p.dn = false -> p.pass.dn = false -> aF (fun k => k = q \/ B.own k) w w1 -> aT w1 q { B with ev := ev1 } p.pass gv -> Calls prog 68 #[.pointer (some ⟨x, 0, none⟩), .pointer (some ⟨y, 0, none⟩), .pointer (some ⟨z, 0, none⟩)] w1 fun e w' => e = .returned (.tuple #[.int .u32 V, .int .i64 E]) /\ bA q { B with ev := ev1 } p2 gv w1 w')) (D : Bool) (h0 : p.dn = false) (h1 : p.pass.dn = false) (h2 : p2.dn = D) :
 Calls prog 67 #[.pointer (some ⟨q, 0, none⟩), .func (.func 68) #[] #[.pointer (some ⟨x, 0, none⟩), .pointer (some ⟨y, 0, none⟩), .pointer (some ⟨z, 0, none⟩)]] w fun e w' => e = .returned (.tuple #[.int .u32 (cond D 0 V), .int .i64 (cond D 13 E)]) /\ bA q B p2 gv w w' := by
 exact xJ
theorem aOa (q : Nat) (B : Bp) (p : Pt) (gv : Value) (m : Nat) (x y z : Nat) (V E : Int) (p2 : Pt) (w : World) (H : aT w q B p gv) (ok : p.ok m) (hm : m < 4294967290)
 (H2 : p.dn = false -> p.pass.dn = false -> p2.x.told /\ p2.se <= p2.x.es.length)
 (HF : Hid (∀ w1 ev1, p.dn = false -> p.pass.dn = false -> aF (fun k => k = q \/ B.own k) w w1 -> aT w1 q { B with ev := ev1 } p.pass gv -> Calls prog 68 #[.pointer (some ⟨x, 0, none⟩), .pointer (some ⟨y, 0, none⟩), .pointer (some ⟨z, 0, none⟩)] w1 fun e w' => e = .returned (.tuple #[.int .u32 V, .int .i64 E]) /\ bA q { B with ev := ev1 } p2 gv w1 w')) :
 Calls prog 67 #[.pointer (some ⟨q, 0, none⟩), .func (.func 68) #[] #[.pointer (some ⟨x, 0, none⟩), .pointer (some ⟨y, 0, none⟩), .pointer (some ⟨z, 0, none⟩)]] w fun e w' => e = .returned (.tuple #[.int .u32 (acV p p2 V), .int .i64 (acE p p2 E)]) /\ bA q B (acS p p2) gv w w' := by
 unfold acV acE acS
 cases h0 : p.dn
 . cases h1 : p.pass.dn
   . have := aMS q B p gv m x y z V E p2 w H ok hm H2 HF _ h0 h1 rfl
     cases h2 : p2.dn <;> rw [h2] at this <;> exact this
   . exact aKY _ q B p gv m w H ok hm h0 h1
 . exact aKX _ q B p gv m w H ok hm h0
abbrev tPp : TypeId := 25
def bxP (q : Nat) : Obj := .cells #[.pointer (some ⟨q, 0, none⟩)] tPp (0, 0)
def xU (a : Int) : Obj := .cells #[.int .u32 a] tU (0, 0)
theorem aMU (q : Nat) (C : Bp) (p : Pt) (gv : Value) (x y : Nat) (a : Int) (w : World) (H : aT w q C p gv) (hx : w.heap[x]? = some (bxP q)) (hy : w.heap[y]? = some (xU a)) (a0 : 0 <= a) (a1 : a < 4294967296) :
 Calls prog 72 #[.pointer (some ⟨x, 0, none⟩), .pointer (some ⟨y, 0, none⟩)] w fun e w' => e = .returned (.tuple #[.int .u32 (p.x.ldv C.n C.c a), .int .i64 (Bx.lde C.n C.c a)]) /\ Below w.heap.size w w' := by
 have HL := Hd (show ∀ w', aZ w' C p.x -> _ from fun w' h => aCE C p.x a w' h a0 a1)
 have HH := Hd H
 have cx := aA hx 0
 have cy := aA hy 0
 simp only [y0q, y1q] at cx cy
 have hlx := lt_of_block hx
 have hly := lt_of_block hy
 have c3 := H.c3
 have hq := H.lt
 have hg := bC
 clear H hx hy a0 a1
 go_enter func72, ntmps72
 go_upto_region 1 with (fail)
 refine wp_region_quiet_below (by kernel_rfl) (by kernel_rfl) ?_
 repeat (go_big_quiet_step (first | (go_at_call 73; exact Calls.regrown_of (HL.out _ (HH.out.bd.below (below_regrown w _ _))))))
 refine wpQuiet_nil ?_
 intro _ hw'
 obtain ⟨⟨dq, osq⟩, hw''⟩ := hw'
 subst hw''
 go_wp2_with fail
 go_ret2
 exact ⟨rfl, below_regrown w _ _⟩
theorem aIw (q : Nat) (C : Bp) (p : Pt) (gv : Value) (x y z : Nat) (a v : Int) (w : World) (H : aT w q C p gv) (hx : w.heap[x]? = some (bxP q)) (hy : w.heap[y]? = some (xU a)) (hz : w.heap[z]? = some (xU v)) (a0 : 0 <= a) (a1 : a < 4294967296) (v0 : 0 <= v) (v1 : v < 4294967296) (hl : p.x.es.length < 4294967296) :
 Calls prog 68 #[.pointer (some ⟨x, 0, none⟩), .pointer (some ⟨y, 0, none⟩), .pointer (some ⟨z, 0, none⟩)] w fun e w' => e = .returned (.tuple #[.int .u32 0, .int .i64 (Bx.ste C.n C.c a)]) /\ bA q C (p.put C.n C.c a v) gv w w' := by
 have HL := Hd (show ∀ w', aZ w' C p.x -> _ from fun w' h => aIL C p.x a v w' h a0 a1 v0 v1 hl)
 have HH := Hd H
 have cx := aA hx 0
 have cy := aA hy 0
 have cz := aA hz 0
 simp only [y0q, y1q] at cx cy cz
 have hlx := lt_of_block hx
 have hly := lt_of_block hy
 have hlz := lt_of_block hz
 have c3 := H.c3
 have hq := H.lt
 have hg := bC
 clear H hx hy hz a0 a1 v0 v1 hl
 go_enter func68, ntmps68
 go_upto_region 1 with (fail)
 refine cY 6 (by kernel_rfl) (by kernel_rfl) (by intro _ _ d _ _ h; cases d <;> exact h) ?_
 simp only [List.take_succ_cons, List.take_zero, List.drop_succ_cons, List.drop_zero]
 repeat (go_big_quiet_step (fail))
 refine wpQuiet_nil ?_
 intro _ hw'
 obtain ⟨⟨dq, osq⟩, hw''⟩ := hw'
 subst hw''
 have hb := below_regrown w dq osq
 have HH1 := Hd (HH.out.below hb)
 have HO := Hd (aF.ofBelow (S := fun k => k = q \/ C.own k) hb)
 clear hb hg cx cy cz c3
 dsimp only at HH1 HO ⊢
 generalize grow (redrawn w dq) osq = W at *
 go_wp2_with (go_at_call 26; refine (HL.out _ HH1.out.bd).mono ?_; rintro e w2 ⟨rfl, hL⟩; have HX := Hd (bA.from HO.out (HH1.out.board hL)); clear hL)
 go_ret2
 exact ⟨rfl, HX.out⟩
theorem zF (n c : Nat) (p : Pt) (a : Int) : acV p p.pass (p.pass.x.ldv n c a) = p.ldv n c a /\ acE p p.pass (Bx.lde n c a) = p.lde n c a /\ acS p p.pass = p.ldp := by
 unfold acV acE acS Pt.ldv Pt.lde Pt.ldp
 cases h0 : p.dn <;> cases h1 : p.pass.dn <;> simp
theorem aAp (n c : Nat) (p : Pt) (a v : Int) : acE p (p.pass.put n c a v) (Bx.ste n c a) = p.ste n c a v /\ acS p (p.pass.put n c a v) = p.stp n c a v := by
 unfold acE acS Pt.ste Pt.stp
 exact ⟨rfl, rfl⟩
theorem aOd (q : Nat) (B : Bp) (p : Pt) (gv : Value) (m : Nat) (a : Int) (w : World) (H : aT w q B p gv) (ok : p.ok m) (hm : m < 4294967290) (a0 : 0 <= a) (a1 : a < 4294967296) :
 Calls prog 37 #[.pointer (some ⟨q, 0, none⟩), .int .u32 a] w fun e w' => e = .returned (.tuple #[.int .u32 (p.ldv B.n B.c a), .int .i64 (p.lde B.n B.c a)]) /\ bA q B p.ldp gv w w' := by
 have hb := aE (aE (aH w) (bxP q)) (xU a)
 have hpo := Pt.pass_ok ok H.bd.still hm
 have hx := bM w (bxP q) (xU a)
 have hy := bU w (bxP q) (xU a)
 have HH := H.below hb
 have HA := Hd (aOZ q B p gv m w.heap.size (w.heap.size + 1) (p.pass.x.ldv B.n B.c a) (Bx.lde B.n B.c a) p.pass _ HH ok hm (fun _ _ => ⟨hpo.td, hpo.se⟩) (Hd fun w1 ev1 _ _ ho h => (aMU q { B with ev := ev1 } p.pass gv _ _ a w1 h (mR HH ho hx (by decide) rfl) (mR HH ho hy (by decide) rfl) a0 a1).mono fun e w' g => ⟨g.1, h.left g.2⟩))
 rw [(zF B.n B.c p a).1, (zF B.n B.c p a).2.1, (zF B.n B.c p a).2.2] at HA
 have HO := Hd (aF.ofBelow (S := fun k => k = q \/ B.own k) hb)
 have cx := aA hx 0
 simp only [y0q, y1q] at cx
 clear HH hpo H ok hm a0 a1 hb hx hy
 go_enter func37, ntmps37
 go_upto_region 1 with (fail)
 rw [show Obj.cells #[.pointer (some ⟨q, 0, none⟩)] 25 (0, 0) = bxP q from rfl, show Obj.cells #[.int .u32 a] 26 (0, 0) = xU a from rfl]
 generalize (w.alloc (bxP q)).alloc (xU a) = W at *
 go_wp2_with fail
 refine (HA.out).mono ?_
 rintro e w1 ⟨rfl, hL⟩
 have HX := Hd (bA.from HO.out hL)
 clear hL
 go_wp2_with fail
 go_ret2
 exact ⟨rfl, HX.out⟩
theorem aCt (q : Nat) (B : Bp) (p : Pt) (gv : Value) (m : Nat) (a v : Int) (w : World) (H : aT w q B p gv) (ok : p.ok m) (hm : m < 4294967290) (a0 : 0 <= a) (a1 : a < 4294967296) (v0 : 0 <= v) (v1 : v < 4294967296) :
 Calls prog 30 #[.pointer (some ⟨q, 0, none⟩), .int .u32 a, .int .u32 v] w fun e w' => e = .returned (.int .i64 (p.ste B.n B.c a v)) /\ bA q B (p.stp B.n B.c a v) gv w w' := by
 have hb := aE (aE (aE (aH w) (bxP q)) (xU a)) (xU v)
 have gb := Pt.gp_bounds ok.gs
 have hps := (Bx.tick_ok H.bd.ok H.bd.still (N := p.gp) gb.1 (by omega)).2
 have hx := aCA w (bxP q) (xU a) (xU v)
 have hy := aCB w (bxP q) (xU a) (xU v)
 have hz := aCC w (bxP q) (xU a) (xU v)
 have HH := H.below hb
 have HA := Hd (aOa q B p gv m w.heap.size (w.heap.size + 1) (w.heap.size + 2) 0 (Bx.ste B.n B.c a) (p.pass.put B.n B.c a v) _ HH ok hm
  (fun h0 h1 => have h2 := Pt.stored_ok (n := B.n) (c := B.c) ok HH.bd.still hps hm h0 h1 a v; ⟨h2.td, h2.se⟩)
  (Hd fun w1 ev1 h0 h1 ho h => aIw q { B with ev := ev1 } p.pass gv _ _ _ a v w1 h (mR HH ho hx (by decide) rfl) (mR HH ho hy (by decide) rfl) (mR HH ho hz (by decide) rfl) a0 a1 v0 v1 (by have := Pt.passed_ok ok HH.bd.still hm h0 h1; omega)))
 rw [(aAp B.n B.c p a v).1, (aAp B.n B.c p a v).2] at HA
 have HO := Hd (aF.ofBelow (S := fun k => k = q \/ B.own k) hb)
 have cx := aA hx 0
 simp only [y0q, y1q] at cx
 clear HH hps gb H ok hm a0 a1 v0 v1 hb hx hy hz
 go_enter func30, ntmps30
 go_upto_region 1 with (fail)
 rw [show Obj.cells #[.pointer (some ⟨q, 0, none⟩)] 25 (0, 0) = bxP q from rfl, show Obj.cells #[.int .u32 a] 26 (0, 0) = xU a from rfl, show Obj.cells #[.int .u32 v] 26 (0, 0) = xU v from rfl]
 generalize ((w.alloc (bxP q)).alloc (xU a)).alloc (xU v) = W at *
 go_wp2_with fail
 refine (HA.out).mono ?_
 rintro e w1 ⟨rfl, hL⟩
 have HX := Hd (bA.from HO.out hL)
 clear hL
 go_wp2_with fail
 go_ret
 exact ⟨rfl, HX.out⟩
def Kq (w w' : World) : Prop := ∀ (k : Nat) (cs : Array Value) (T : TypeId) (f : Nat × Nat), w.heap[k]? = some (.cells cs T f) -> aAM (T + 1) = false -> (T == tPt) = false -> w'.heap[k]? = some (.cells cs T f)
theorem Kq.refl (w : World) : Kq w w := fun _ _ _ _ h _ _ => h
theorem Kq.trans {a b c : World} (h : Kq a b) (g : Kq b c) : Kq a c := fun k cs T f hk hT hP => g k cs T f (h k cs T f hk hT hP) hT hP
theorem Kq.ofBelow {w w' : World} (hb : Below w.heap.size w w') : Kq w w' := fun _ _ _ _ h _ _ => aC hb h (lt_of_block h)
theorem Kq.ofOff {w w' : World} {r : Nat} {cs : Array Value} {T : TypeId} {f : Nat × Nat} (hr : w.heap[r]? = some (.cells cs T f)) (ho : aF (· = r) w w') (hT : (T == tPt) = true \/ aAM (T + 1) = true) : Kq w w' := fun k cs' T' f' hk h1 h2 =>
 ho.at hk fun e => by
  rw [e, hr] at hk
  cases hk
  rcases hT with h | h
  . rw [h2] at h; cases h
  . rw [h1] at h; cases h
structure Lp (s q : Nat) (B C : Bp) (p : Pt) (gv : Value) (w w' : World) : Prop where
 h : aT w' q C p gv
 nw : C.new s
 e : C.b = B.b
 n : C.n = B.n
 c : C.c = B.c
 d : C.div = B.div
 lo : Below s w w'
 kq : Kq w w'
section
variable {w w' w'' : World} {s q : Nat} {B C : Bp} {p p0 : Pt} {gv gv0 : Value}
theorem bA.kq (H : aT w q B p0 gv0) (L : bA q B p gv w w') : Kq w w' := fun k cs T f hk hT hP => L.off.at hk fun e => by
 rcases e with e | e
 . rw [e, H.cell] at hk; cases hk; cases hP
 . have := H.bd.ownKd e; rw [bT hk, hT] at this; cases this
theorem bA.lp (H : aT w q B p0 gv0) (L : bA q B p gv w w') (h : B.new s) (hq : s <= q) (hs : s <= w.heap.size) : ∃ C, Lp s q B C p gv w w' := by
 have K := L.kq H
 obtain ⟨ev', H1, ho, he⟩ := L
 exact ⟨{ B with ev := ev' }, H1, aBI h hs he, rfl, rfl, rfl, rfl, ho.below (fun k hk ho => by
  rcases ho with e | e
  . omega
  . have := h k (.inl e); omega) hs, K⟩
theorem jW.kq {t : Nat} {v : Value} {gs : List Int} (h : jW t w v gs) (K : Kq w w') (lo : Below t w w') : jW t w' v gs := h.keep lo.size fun k hk hg => by
 rcases hg with hg | hg
 . exact lo.block k hg
 . unfold kd at hg
   cases e : w.heap[k]? with
   | none => rw [e] at hg; exact absurd (show gK 0 = true from hg) (by decide)
   | some o =>
     rw [e] at hg
     cases o with
     | cells cs T f =>
       have h1 := tZ hg
       exact K k cs T f e h1.1 (by
        cases h2 : (T == tPt)
        . rfl
        . exact absurd (by rw [beq_iff_eq.1 h2]) h1.2.2)
     | _ => exact absurd (show gK 0 = true from hg) (by decide)
end
theorem aKp (d : Int) : (qQ d).told := rfl
end Go.Proofs.YtaohacadochldaaGreat.B
