/- A map gone through, in whatever order: by the keys that have come so far. -/
import Derived.Test.YtafegmmcgghgaaaMap
import Derived.Maps.RangeWalk
namespace Go.Proofs.Ytafegmmcgghgaaa.B
set_option linter.unusedVariables false
set_option linter.unusedSimpArgs false
open Go.ChangeShapes Go.WideShapes Go.RowKit Go.Sort Go.MapKept
open Go.ChangeMaps (setBlock)
/-- One entry more has come. -/
theorem filter_one (p : MapEntry → Bool) (e : MapEntry) (hp : p e = false) : ∀ l : List MapEntry, e ∈ l → (l.map (·.born)).Nodup → (l.filter fun x => p x || x.born == e.born).Perm (e :: l.filter p)
  | [], h, _ => by cases h
  | a :: l, h, hn => by
    simp only [List.map_cons, List.nodup_cons] at hn
    rcases List.mem_cons.1 h with rfl | h'
    · have hrest : (l.filter fun x => p x || x.born == e.born) = l.filter p := by
        refine List.filter_congr fun x hx => ?_
        have : (x.born == e.born) = false := by
          cases hq : (x.born == e.born)
          · rfl
          · exact absurd (List.mem_map.2 ⟨x, hx, by simpa using hq⟩) hn.1
        rw [this, Bool.or_false]
      rw [List.filter_cons, if_pos (by simp), hrest, List.filter_cons, if_neg (by simp [hp])]
    · have hne : (a.born == e.born) = false := by
        cases hq : (a.born == e.born)
        · rfl
        · exact absurd (List.mem_map.2 ⟨e, h', by simpa using (by simpa using hq : a.born = e.born).symm⟩) hn.1
      have ih := filter_one p e hp l h' hn.2
      rw [List.filter_cons, List.filter_cons, hne, Bool.or_false]
      cases hpa : p a
      · simpa using ih
      · simp only [if_true]
        exact (ih.cons a).trans (List.Perm.swap _ _ _)
/-- Block b is a map that holds just the list's keys and elements; block r goes through it; these keys have come. -/
def RngAt (w : World) {κ : Type} (ek : κ → Value) (ok : κ → Prop) (b r : Nat) (M : List (κ × Value)) (dn : List κ) : Prop :=
  ∃ es clock since seen c0, w.heap[b]? = some (.map es clock) ∧ Stamped es clock ∧ (es.toList.map fun e => (e.key, e.val)).Perm (M.map fun p => (ek p.1, p.2)) ∧ (∀ p ∈ M, ok p.1) ∧
    w.heap[r]? = some (.mapIter (some b) since seen c0) ∧ (∀ x ∈ es.toList, x.born < since) ∧ since ≤ c0 ∧ since ≤ clock ∧ ((es.toList.filter fun x => seen.contains x.born).map (·.key)).Perm (dn.map ek)
section
variable {P : Program} {κ : Type} {ek : κ → Value} {ok : κ → Prop} {w w' : World} {b r : Nat} {M : List (κ × Value)} {dn : List κ}
theorem RngAt.map (h : RngAt w ek ok b r M dn) : mapP w ek ok b M := by
  obtain ⟨es, clock, since, seen, c0, h1, h2, h3, h4, _⟩ := h
  exact ⟨es, clock, h1, h2, h3, h4⟩
theorem RngAt.ltr (h : RngAt w ek ok b r M dn) : r < w.heap.size := by obtain ⟨es, clock, since, seen, c0, h1, h2, h3, h4, h5, _⟩ := h; exact lt_of_block h5
theorem RngAt.ltb (h : RngAt w ek ok b r M dn) : b < w.heap.size := by obtain ⟨es, clock, since, seen, c0, h1, _⟩ := h; exact lt_of_block h1
theorem RngAt.off {S : Nat → Prop} (h : RngAt w ek ok b r M dn) (ho : Off S w w') (hb : ¬ S b) (hr : ¬ S r) : RngAt w' ek ok b r M dn := by
  obtain ⟨es, clock, since, seen, c0, h1, h2, h3, h4, h5, h6⟩ := h
  exact ⟨es, clock, since, seen, c0, ho.at h1 hb, h2, h3, h4, ho.at h5 hr, h6⟩
theorem RngAt.below (h : RngAt w ek ok b r M dn) (hb : Below w.heap.size w w') : RngAt w' ek ok b r M dn := h.off (S := fun _ => False) (Off.ofBelow hb) (fun h => h) (fun h => h)
/-- 'range m'. -/
theorem range_start {t k e : TypeId} (ht : P.underlying t = some (.map k e)) (h : mapP w ek ok b M) :
    ∃ w', (Instr.range t (.map (some b))).run P w = .ok (.pointer (some ⟨w.heap.size, 0, none⟩)) w' ∧ RngAt w' ek ok b w.heap.size M [] ∧ Below w.heap.size w w' := by
  have hlt := h.lt
  obtain ⟨es, clock, hb, hS, h3, h4⟩ := h
  refine ⟨_, run_range_map w t k e b es clock ht hb, ⟨es, clock, clock, #[], clock, (blk_old _ _ hlt).trans hb, hS, h3, h4, blk_new w _, hS.1, Nat.le_refl _, Nat.le_refl _, ?_⟩, trA (tr0 w) _⟩
  have : es.toList.filter (fun x => (#[] : Array Nat).contains x.born) = [] := List.filter_eq_nil_iff.2 fun x _ => by simp
  rw [this]; exact List.Perm.refl _
/-- The step. -/
theorem RngAt.next (h : RngAt w ek ok b r M dn) (inv : Value → κ) (hinv : ∀ x, inv (ek x) = x) (ty : TypeId) :
    (dn.Perm (M.map (·.1)) ∧ (Instr.next (.pointer (some ⟨r, 0, none⟩)) false ty).run P w = .ok (.tuple #[.bool false]) w) ∨
    ∃ x v w', (x, v) ∈ M ∧ dn.length < M.length ∧ (Instr.next (.pointer (some ⟨r, 0, none⟩)) false ty).run P w = .ok (.tuple #[.bool true, ek x, v]) w' ∧
      RngAt w' ek ok b r M (x :: dn) ∧ Off (· = r) w w' ∧ w'.heap.size = w.heap.size ∧ (Instr.entry (.pointer (some ⟨r, 0, none⟩))).run P w' = .ok (.tuple #[ek x, v]) w' := by
  obtain ⟨es, clock, since, seen, c0, hb, hS, h3, h4, hr, hold, hsc, hsk, hd⟩ := h
  have hne : r ≠ b := fun e => by rw [e, hb] at hr; cases hr
  have hlen : es.toList.length = M.length := by have := h3.length_eq; simpa using this
  rcases run_next_at (P := P) w ty r b since c0 seen es clock hr hb hold hsc with ⟨h0, hrun⟩ | ⟨e, he, w1, hal, hrun⟩
  · left
    refine ⟨?_, hrun⟩
    have hall : es.toList.filter (fun x => seen.contains x.born) = es.toList := List.filter_eq_self.2 fun x hx => all_seen es seen h0 x hx
    rw [hall] at hd
    have h5 := (h3.map Prod.fst)
    simp only [List.map_map, Function.comp_def] at h5
    have h6 := (hd.symm.trans h5).map inv
    simpa [List.map_map, Function.comp_def, hinv] using h6
  · right
    obtain ⟨hem, hes⟩ := mem_left he
    have hmem : (e.key, e.val) ∈ M.map fun p => (ek p.1, p.2) := h3.mem_iff.1 (List.mem_map.2 ⟨e, hem, rfl⟩)
    obtain ⟨⟨x, v⟩, hq, hqe⟩ := List.mem_map.1 hmem
    obtain ⟨hk, hv⟩ := Prod.mk.inj hqe
    simp only at hk hv
    have hr1 : w1.heap[r]? = some (.mapIter (some b) since seen c0) := by rcases hal with rfl | rfl <;> exact hr
    have hb1 : w1.heap[b]? = some (.map es clock) := by rcases hal with rfl | rfl <;> exact hb
    have hset := heap_set (o' := .mapIter (some b) since (seen.push e.born) clock) hr1
    have hb' : (setBlock w1 r (.mapIter (some b) since (seen.push e.born) clock)).heap[b]? = some (.map es clock) := (hset.2 b (fun e1 => hne e1.symm)).trans hb1
    have hp := filter_one (fun x => seen.contains x.born) e hes es.toList hem hS.2.1
    have hfe : (es.toList.filter fun x => (seen.push e.born).contains x.born) = es.toList.filter fun x => seen.contains x.born || x.born == e.born := List.filter_congr fun x _ => contains_push _ _ _
    have hd2 : ((es.toList.filter fun x => (seen.push e.born).contains x.born).map (·.key)).Perm ((x :: dn).map ek) := by
      rw [hfe]
      refine (hp.map _).trans ?_
      rw [List.map_cons, List.map_cons, hk]
      exact hd.cons _
    refine ⟨x, v, _, hq, ?_, by rw [hk, hv]; exact hrun, ⟨es, clock, since, seen.push e.born, clock, hb', hS, h3, h4, hset.1, hold, hsk, hsk, hd2⟩, ?_, ?_, by rw [hk, hv]; exact run_entry_at _ r b since seen es clock e hset.1 hb' hem hS.2.1⟩
    · have h7 := hd2.length_eq
      simp only [List.length_map, List.length_cons] at h7
      have h8 := List.length_filter_le (fun x : MapEntry => (seen.push e.born).contains x.born) es.toList
      omega
    · rcases hal with rfl | rfl
      · exact off_setBlock _ _ _ rfl
      · exact (off_drew w).trans (off_setBlock _ _ _ rfl)
    · rcases hal with rfl | rfl <;> simp [setBlock]
variable {ops : Array Oper} {rest : List Oper} {o : Oper} {a : Act} {Q : Exit → Act → World → Prop}
theorem wpList_rangeM (hg : o.guard = none) (m : Operand) (t : TypeId) (hop : o.op = Op.range t m) {k e : TypeId} (ht : P.underlying t = some (.map k e)) (hm : a.eval m = .map (some b)) (h : mapP w ek ok b M)
    (hK : ∀ w', RngAt w' ek ok b w.heap.size M [] → Below w.heap.size w w' → wpList P ops Q rest (a.put o.dst (.pointer (some ⟨w.heap.size, 0, none⟩))) w') : wpList P ops Q (o :: rest) a w := by
  refine wpList_plain hg fun K' hK' => ?_
  obtain ⟨w', hrun, h1, h2⟩ := range_start ht h
  unfold Oper.wp
  simp [execOp, hop, hm, hrun, Result.andThen]
  exact hK' _ _ (hK w' h1 h2)
theorem wpList_nextM (hg : o.guard = none) (it : Operand) (hop : o.op = Op.next it false) (hit : a.eval it = .pointer (some ⟨r, 0, none⟩)) (h : RngAt w ek ok b r M dn) (inv : Value → κ) (hinv : ∀ x, inv (ek x) = x)
    (hDone : dn.Perm (M.map (·.1)) → wpList P ops Q rest (a.put o.dst (.tuple #[.bool false])) w)
    (hMore : ∀ x v w', (x, v) ∈ M → dn.length < M.length → RngAt w' ek ok b r M (x :: dn) → Off (· = r) w w' → w'.heap.size = w.heap.size → (Instr.entry (.pointer (some ⟨r, 0, none⟩))).run P w' = .ok (.tuple #[ek x, v]) w' →
      wpList P ops Q rest (a.put o.dst (.tuple #[.bool true, ek x, v])) w') : wpList P ops Q (o :: rest) a w := by
  refine wpList_plain hg fun K' hK' => ?_
  unfold Oper.wp
  rcases h.next (P := P) inv hinv o.type with ⟨h0, hrun⟩ | ⟨x, v, w', h1, h2, hrun, h3, h4, h5, h6⟩
  · simp [execOp, hop, hit, hrun, Result.andThen]
    exact hK' _ _ (hDone h0)
  · simp [execOp, hop, hit, hrun, Result.andThen]
    exact hK' _ _ (hMore x v w' h1 h2 h3 h4 h5 h6)
end
end Go.Proofs.Ytafegmmcgghgaaa.B
