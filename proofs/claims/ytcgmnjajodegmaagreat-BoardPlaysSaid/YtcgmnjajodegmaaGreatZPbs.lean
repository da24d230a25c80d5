/- Several texts in one: Layer 11's Do: a call of both, a board and the document's. (Written by tools/gen_l11d.py.) Layer 11's Do: a call of both, a .. -/
import Derived.Test.YtcgmnjajodegmaaGreatZPab
import Derived.Test.YtcgmnjajodegmaaGreatZPbp
import Derived.Test.YtcgmnjajodegmaaGreatZPbr
import Derived.Laws.StructEq
import Derived.Deep.Cut
namespace Go.Proofs.YtcgmnjajodegmaaGreat.B
set_option linter.unusedVariables false
set_option linter.unusedSimpArgs false
set_option maxRecDepth 100000
open Go.ChangeShapes Go.WideShapes Go.RowKit Go.Sort
set_option maxHeartbeats 1600000 in
theorem yDo4 (B : Bp) (x : Bx) (bk ev : Value) (K N a v : Int) (s : Nat) (w : World) (H : BdAt w B x) (hn : B.new s) (hs : s ≤ w.heap.size) (M : MV w B.c x bk ev) (hl : x.es.length < 4294967290) (n0 : 0 ≤ N) (n1 : N < 18446744073709551616) (a0 : 0 ≤ a) (a1 : a < 4294967296) (v0 : 0 ≤ v) (v1 : v < 4294967296) (k0 : (K == 0) = false) (k1 : (K == 1) = false) (k2 : (K == 2) = false) (k3 : (K == 3) = false) :
 Calls Tryz.prog 13 #[.pointer (some ⟨B.b, 0, none⟩), .agg (ml B.n x bk ev).toArray, .agg #[.int .i64 K, .int .u64 N, .int .u32 a, .int .u32 v]] w (DoPost11 s B x w) := by
 have hb := trA (trA (trA (tr0 w) (oM11 B.n x bk ev)) (actO K N a v)) zM11
 have HF := Lib.hid (d11_new w s B.n x bk ev K N a v hs)
 have HH := Lib.hid (H.below hb)
 have HM := Lib.hid (M.below hb)
 have HNW := Lib.hid hn
 have HOK := Lib.hid H.ok
 have HST := Lib.hid H.still
 have HL := Lib.hid (show x.es.length < 4294967296 by omega)
 have HL2 := Lib.hid hl
 clear H M hn hs hb hl
 go_enter Tryz.func13, Tryz.ntmps13
 go_upto_region 1 with (fail)
 rw [oM11_eq, zM11_eq, show Obj.cells #[.int .i64 K, .int .u64 N, .int .u32 a, .int .u32 v] 52 (0, 0) = actO K N a v from rfl]
 generalize ((w.alloc (oM11 B.n x bk ev)).alloc (actO K N a v)).alloc zM11 = W at *
 have x0 := HF.out.x0
 go_upto_region 19 with (fail)
 have HF := Lib.hid (HF.out.below (trD (tr0 W)))
 have HM := Lib.hid (HM.out.below (trD (tr0 W)))
 have HH := Lib.hid (HH.out.below (trD (tr0 W)))
 refine wp_region_held_drew (S := fun w' => NAt w' w.heap.size B.n x bk ev) (by kernel_rfl) HF.out.h (fun _ => ?_)
 generalize W.drew = W5 at *
 refine wpAnyH_take (i := 0) (v := .pointer (some ⟨B.b, 0, none⟩)) rfl (by kernel_rfl) (by kernel_rfl) (by kernel_rfl) (fun _ _ _ h => h) (Or.inl ⟨by kernel_rfl, fun w' hSw => by clear hSw; go_simp⟩) HF.out.h ?_
 simp only [List.getElem_toArray, List.getElem_cons_zero, List.getElem_cons_succ, Act.put, List.setIfInBounds_toArray, List.set_cons_zero, List.set_cons_succ]
 refine wpAnyH_take (i := 1) (v := .agg (ml B.n x bk ev).toArray) rfl (by kernel_rfl) (by kernel_rfl) (by kernel_rfl) (fun _ _ _ h => h) (Or.inl ⟨by kernel_rfl, fun w' hSw => rnLoadB (.tmp 4) rfl rfl hSw⟩) HF.out.h ?_
 simp only [List.getElem_toArray, List.getElem_cons_zero, List.getElem_cons_succ, Act.put, List.setIfInBounds_toArray, List.set_cons_zero, List.set_cons_succ]
 refine wpAnyH_take (i := 2) (v := .pointer (some ⟨B.b, 0, none⟩)) rfl (by kernel_rfl) (by kernel_rfl) (by kernel_rfl) (fun _ _ _ h => h) (Or.inl ⟨by kernel_rfl, fun w' hSw => by clear hSw; go_simp⟩) HF.out.h ?_
 simp only [List.getElem_toArray, List.getElem_cons_zero, List.getElem_cons_succ, Act.put, List.setIfInBounds_toArray, List.set_cons_zero, List.set_cons_succ]
 refine wpAnyH_ready (rs := [3]) (by kernel_rfl) (by simp) ?_
 refine AllReadyH.cons rfl (fun K hK => ?_) AllReadyH.nil
 refine step_store_B rfl (.tmp 7) (.tmp 97) rfl rfl B.n x bk ev rfl HF.out.z HM.out.one ?_
 intro W9 hN9 ho9
 have HX := Lib.hid (d11_end HF.out HH.out HNW.out ⟨rfl, rfl, rfl⟩ HM.out (.inl rfl) ho9)
 have hS9 := (show NAt W9 w.heap.size B.n x bk ev from ho9.at HF.out.h (by omega))
 refine hK.out _ _ hS9 (fun _ => ?_)
 clear hK K ho9
 simp only [Act.put]
 refine wpAnyH_take (i := 4) (v := .bool true) rfl (by kernel_rfl) (by kernel_rfl) (by kernel_rfl) (fun _ _ _ h => h) (Or.inl ⟨by kernel_rfl, fun w' hSw => by clear hSw; go_simp⟩) hS9 ?_
 simp only [List.getElem_toArray, List.getElem_cons_zero, List.getElem_cons_succ, Act.put, List.setIfInBounds_toArray, List.set_cons_zero, List.set_cons_succ]
 clear hS9
 refine wpAnyH_done (by kernel_rfl) ?_ _
 go_wp2_with fail
 exact bodyPost_ret (resN3 rfl _ _ _ _ rfl rfl rfl hN9) rfl HX.out
theorem yDo (B : Bp) (x : Bx) (bk ev : Value) (K N a v : Int) (s : Nat) (w : World) (H : BdAt w B x) (hn : B.new s) (hs : s ≤ w.heap.size) (M : MV w B.c x bk ev) (hl : x.es.length < 4294967290) (n0 : 0 ≤ N) (n1 : N < 18446744073709551616) (a0 : 0 ≤ a) (a1 : a < 4294967296) (v0 : 0 ≤ v) (v1 : v < 4294967296) :
 Calls Tryz.prog 13 #[.pointer (some ⟨B.b, 0, none⟩), .agg (ml B.n x bk ev).toArray, .agg #[.int .i64 K, .int .u64 N, .int .u32 a, .int .u32 v]] w (DoPost11 s B x w) := by
 by_cases h0 : K = 0
 · exact yDo0 B x bk ev K N a v s w H hn hs M hl n0 n1 a0 a1 v0 v1 h0
 by_cases h1 : K = 1
 · exact yDo1 B x bk ev K N a v s w H hn hs M hl n0 n1 a0 a1 v0 v1 h1
 by_cases h2 : K = 2
 · exact yDo2 B x bk ev K N a v s w H hn hs M hl n0 n1 a0 a1 v0 v1 h2
 by_cases h3 : K = 3
 · exact yDo3 B x bk ev K N a v s w H hn hs M hl n0 n1 a0 a1 v0 v1 h3
 exact yDo4 B x bk ev K N a v s w H hn hs M hl n0 n1 a0 a1 v0 v1 (by simpa using h0) (by simpa using h1) (by simpa using h2) (by simpa using h3)
def kx0 : Bx := bx0 10
def kx1 : Bx := kx0.sto 1 1 268566536 5
def kx2 : Bx := kx1.sto 1 1 268566528 1
def kx3 : Bx := kx2.tick 8
theorem kx_1 : Bx.ste 1 1 268566536 = 0 := by decide +kernel
theorem kx_2 : Bx.ste 1 1 268566528 = 0 := by decide +kernel
theorem kx_e0 : kx0.es.length < 4294967296 := by decide +kernel
theorem kx_e1 : kx1.es.length < 4294967296 := by decide +kernel
theorem kx_e2 : kx2.es.length < 4294967296 := by decide +kernel
theorem kx_e3 : kx3.es = [(5, 2)] := by decide +kernel
theorem kx_t : kx3.ti = 8 := by decide +kernel
theorem kx_v : kx3.ldv 1 1 268566536 = 0 := by decide +kernel
theorem kx_l : Bx.lde 1 1 268566536 = 0 := by decide +kernel
set_option maxHeartbeats 3200000 in
theorem bdKnown (w : World) : Calls Tryz.prog 10 #[] w fun e w' => e = .returned (.bool true) ∧ Below w.heap.size w w' := by
 have HNW := Lib.hid (hNew 1 1 10 w (by decide) (by decide) (by decide) (by decide) (by decide) (by decide))
 go_enter Tryz.func10, Tryz.ntmps10
 go_wp2_with fail
 refine (HNW.out).mono ?_
 rintro e w1 ⟨b, rfl, H1, b1⟩
 have HH := Lib.hid (show Has w.heap.size w1 b 1 1 10 kx0 from H1)
 have HB := Lib.hid b1
 clear H1 b1 HNW
 go_wp2_with fail
 refine (hStore HH.out HB.out.size 268566536 5 (by decide) (by decide) (by decide) (by decide) kx_e0).mono ?_
 rw [kx_1]
 rintro e w2 ⟨rfl, H1, b1⟩
 have HH := Lib.hid (show Has w.heap.size w2 b 1 1 10 kx1 from H1)
 have HB := Lib.hid (HB.out.trans b1)
 clear H1 b1
 go_wp2_with fail
 refine (hStore HH.out HB.out.size 268566528 1 (by decide) (by decide) (by decide) (by decide) kx_e1).mono ?_
 rw [kx_2]
 rintro e w3 ⟨rfl, H1, b1⟩
 have HH := Lib.hid (show Has w.heap.size w3 b 1 1 10 kx2 from H1)
 have HB := Lib.hid (HB.out.trans b1)
 clear H1 b1
 go_wp2_with fail
 refine (hTick HH.out HB.out.size 8 (by decide) (by decide) kx_e2).mono ?_
 rintro e w4 ⟨rfl, H1, b1⟩
 have HH := Lib.hid (show Has w.heap.size w4 b 1 1 10 kx3 from H1)
 have HB := Lib.hid (HB.out.trans b1)
 clear H1 b1
 go_wp2_with fail
 refine (hResets HH.out (by rw [kx_e3]; decide)).mono ?_
 rintro e w5 ⟨v', rfl, he, b1, _⟩
 have HH := Lib.hid (HH.out.below b1)
 have HB := Lib.hid (tr HB.out b1)
 rw [kx_e3] at he
 obtain ⟨g, cap, rfl⟩ := row_some (m := 0) he
 have hE := Lib.hid he
 clear he b1
 go_wp2_with fail
 refine (hLoad HH.out 268566536 (by decide) (by decide)).mono ?_
 rw [kx_v, kx_l]
 rintro e w6 ⟨rfl, b1⟩
 have HH := Lib.hid (HH.out.below b1)
 have HB := Lib.hid (tr HB.out b1)
 have hE := Lib.hid (hE.out.below b1)
 clear b1
 go_wp2_with fail
 refine (hTime HH.out).mono ?_
 rw [kx_t]
 rintro e w7 ⟨rfl, b1⟩
 have HB := Lib.hid (tr HB.out b1)
 have hE := (hE.out.below b1)
 have c0 : w7.cell? ⟨g, 0, none⟩ = some (.int .u64 5) := by have := row_cell (f := evC) evC_len (w := w7) (L := [(5, 2)]) hE rfl (k := 0) rfl 0 (by decide); simpa [evC] using this
 have c1 : w7.cell? ⟨g, 1, none⟩ = some (.int .i64 2) := by have := row_cell (f := evC) evC_len (w := w7) (L := [(5, 2)]) hE rfl (k := 0) rfl 1 (by decide); simpa [evC] using this
 clear b1 hE
 go_wp2_with fail
 go_ret
 exact ⟨rfl, HB.out⟩
end Go.Proofs.YtcgmnjajodegmaaGreat.B
namespace Go.Proofs.YtcgmnjajodegmaaGreat.B
set_option linter.unusedVariables false
set_option linter.unusedSimpArgs false
open Go.RowKit Go.Sort
def treeB (md : Region.Mode) (ops : Array Oper) (n : Nat) : Bool :=
 (List.range ops.size).all fun t => decide (t ≤ n) || (List.range t).any fun j => decide (n ≤ j) && Region.waitsFor md ops t j
def pureB (ops : Array Oper) (k : Nat) : Bool :=
 match ops[k]? with
 | some o => o.guard.isNone && (match o.op with | .move _ | .assign _ | .extract _ _ => true | _ => false)
 | none => false
def mixB (md : Region.Mode) (ops : Array Oper) : Nat → Nat → Array Bool → Bool
 | 0, _, done => (Region.ready md ops done).isEmpty
 | g + 1, k, done => (decide (Region.ready md ops done = [k]) || ((Region.ready md ops done).contains k && Region.free md ops done k && pureB ops k)) && mixB md ops g (k + 1) (done.setIfInBounds k true)
def lexMix (md : Region.Mode) (ops : Array Oper) (g : Nat) : Nat → Nat → Array Bool → Bool
 | 0, k, done => (Region.ready md ops done).all (fun j => decide (k ≤ j)) && mixB md ops g k done
 | f + 1, k, done => (Region.ready md ops done).contains k && Region.free md ops done k && lexMix md ops g f (k + 1) (done.setIfInBounds k true)
def lexMixB (md : Region.Mode) (ops : Array Oper) (n : Nat) : Bool :=
 Region.noSelect ops && decide (n < ops.size) && Region.sinkB md ops n && treeB md ops n && lexMix md ops (ops.size - n) n 0 (Array.replicate ops.size false)
section
variable {P : Program} {ops : Array Oper} {md : Region.Mode} {C : World → Prop}
theorem tree_waits {n : Nat} {listed : Array Bool} (hs : Region.sinkB md ops n = true) (hc : treeB md ops n = true) (hn : n < ops.size) (inv : HeadInv md ops n listed) :
 ∀ (d i : Nat), n - i = d → i < n → listed.getD i true = false → ∀ t, n ≤ t → t ∉ Region.ready md ops listed := by
 intro d
 induction d using Nat.strongRecOn with
 | _ d ih =>
   intro i hd hi hun t ht hr
   obtain ⟨_, ot, hot, hall⟩ := mem_ready.1 hr
   have htlt : t < ops.size := (Array.getElem?_eq_some_iff.1 hot).1
   by_cases htn : t = n
   · subst htn
     have h1 := List.all_eq_true.1 hs i (List.mem_range.2 hi)
     obtain ⟨j, hj, hj2⟩ := List.any_eq_true.1 h1
     simp only [Bool.and_eq_true, decide_eq_true_eq] at hj2
     obtain ⟨oj, hoj, e, he, hb, hon⟩ := Region.waitsFor_spec hj2.2
     have hjle : j ≤ t := by have := List.mem_range.1 hj; omega
     by_cases hjt : j = t
     · subst hjt
       have : oj = ot := Option.some.inj (hoj.symm.trans hot)
       subst this
       have h2 := hall e he hb
       rw [hon, getD_both hun] at h2
       cases h2
     · cases hl : listed.getD j false with
       | true =>
         have h2 := inv.closed j oj hoj hl e he hb
         rw [hon, getD_both hun] at h2
         cases h2
       | false =>
         have hjs : j < listed.size := by rw [inv.size]; omega
         exact ih (t - j) (by omega) j rfl (by omega) (getD_in hjs hl) t (Nat.le_refl _) hr
   · have h1 := List.all_eq_true.1 hc t (List.mem_range.2 htlt)
     simp only [Bool.or_eq_true, decide_eq_true_eq] at h1
     rcases h1 with h1 | h1
     · omega
     · obtain ⟨j, hj, hj2⟩ := List.any_eq_true.1 h1
       simp only [Bool.and_eq_true, decide_eq_true_eq] at hj2
       have hjt := List.mem_range.1 hj
       obtain ⟨o', ho', e, he, hb, hon⟩ := Region.waitsFor_spec hj2.2
       have : o' = ot := Option.some.inj (ho'.symm.trans hot)
       subst this
       have h2 := hall e he hb
       rw [hon, getD_both (inv.tail j hj2.1 (by omega))] at h2
       cases h2
theorem runT_pure' {α : Type} (x : α) (w : World) : ((pure x : Sem α).runT P w #[]).2 = #[] := rfl
theorem pure_yields {Q : Exit → Act → World → Prop} {k : Nat} {o : Oper} {rest : List Oper} {a : Act} {w : World} (ho : ops[k]? = some o) (hp : pureB ops k = true) (h : wpList P ops Q (o :: rest) a w) (hQ : ∀ c a d v w, Q (.panic c) (Act.put a d v) w → Q (.panic c) a w) :
 ∃ v, Yields P ops o v a ∧ wpList P ops Q rest (a.put o.dst v) w := by
 unfold pureB at hp
 simp only [ho, Bool.and_eq_true] at hp
 obtain ⟨hg, hp⟩ := hp
 have hw : Region.wanted o (yielded ops a.tmps) = true := by
  have : o.guard = none := by simpa using hg
  simp [Region.wanted, this]
 unfold wpList at h
 rw [if_pos hw] at h
 split at hp
 · rename_i x hx
   have hr : ∀ w, (execOp a.eval o).run P w = .ok (.value (a.eval x)) w := BigFrame.run_move x hx
   rcases h with h | ⟨h, _⟩
   · unfold Oper.wp at h
     rw [hr w] at h
     exact ⟨_, .inl ⟨hw, hr⟩, h⟩
   · have := h.1
     unfold execOp at this
     rw [hx] at this
     simp only [runT_pure'] at this
     simp at this
 · rename_i x hx
   have hr : ∀ w, (execOp a.eval o).run P w = .ok (.value (a.eval x)) w := BigFrame.run_assign x hx
   rcases h with h | ⟨h, _⟩
   · unfold Oper.wp at h
     rw [hr w] at h
     exact ⟨_, .inl ⟨hw, hr⟩, h⟩
   · have := h.1
     unfold execOp at this
     rw [hx] at this
     simp only [runT_pure'] at this
     simp at this
 · rename_i x i hx
   have hE : execOp a.eval o = (do let y ← Instr.extract (a.eval x) i; pure (Next.value y)) := by
    unfold execOp
    rw [hx]
   unfold Oper.wp Oper.asks at h
   rw [hE] at h
   have key : ∀ u : Value, a.eval x = u → ∃ v, Yields P ops o v a ∧ wpList P ops Q rest (a.put o.dst v) w := by
    intro u hu
    rw [hu] at h
    by_cases ht : ∃ vs y, u = .tuple vs ∧ vs[i]? = some y
    · obtain ⟨vs, y, rfl, hy⟩ := ht
      have hr : ∀ w, (execOp a.eval o).run P w = .ok (.value y) w := fun w => by
       rw [hE, hu]
       simp [Instr.extract, hy]
      refine ⟨y, .inl ⟨hw, hr⟩, ?_⟩
      rcases h with h | ⟨h, _⟩
      · simpa [Instr.extract, hy, Oper.upon] using h
      · have := h.1
        simp [Instr.extract, hy, runT_pure'] at this
        exact absurd (show noRoomEvent ∈ #[] from this) (by simp)
    · exfalso
      rcases h with h | ⟨h, _⟩
      · cases u
        case tuple vs =>
         cases hv : vs[i]? with
         | none => simp [Instr.extract, hv, stuck, Oper.upon] at h
         | some y => exact ht ⟨vs, y, rfl, hv⟩
        all_goals simp [Instr.extract, stuck, Oper.upon] at h
      · have := h.1
        cases u
        case tuple vs =>
         cases hv : vs[i]? with
         | none => simp [Instr.extract, hv, stuck] at this; exact absurd (show noRoomEvent ∈ #[] from this) (by simp)
         | some y => exact ht ⟨vs, y, rfl, hv⟩
        all_goals (simp [Instr.extract, stuck] at this; exact absurd (show noRoomEvent ∈ #[] from this) (by simp))
   exact key _ rfl
 · cases hp
theorem wpAny_of_mix {Q' : Exit → Act → World → Prop} (hsel : Region.noSelect ops = true) (hQ : ∀ c a d v w, Q' (.panic c) (Act.put a d v) w → Q' (.panic c) a w) :
 ∀ (l : List Oper) (k : Nat) (listed : Array Bool) (a : Act) (w : World), (∀ j, l[j]? = ops[k + j]?) → mixB md ops l.length k listed = true → wpList P ops Q' l a w → wpAny P md ops Q' l.length listed a w
 | [], _, _, _, _, _, hB, h => ⟨by simpa [mixB] using hB, h⟩
 | o :: l, k, listed, a, w, hl, hB, h => by
   have h0 : ops[k]? = some o := by simpa using (hl 0).symm
   simp only [List.length_cons, mixB, Bool.and_eq_true, Bool.or_eq_true, decide_eq_true_eq] at hB
   have hl' : ∀ j, l[j]? = ops[k + 1 + j]? := fun j => by have := hl (j + 1); simpa [Nat.add_assoc, Nat.add_comm 1 j] using this
   rcases hB.1 with h1 | ⟨⟨h1, h2⟩, h3⟩
   · refine ⟨fun h2 => (by rw [h1] at h2; cases h2), fun i hi => ?_⟩
     rw [h1] at hi
     have hik : i = k := by simpa using hi
     subst hik
     have hw : wpOp P ops Q' i (wpList P ops Q' l) a w := by unfold wpOp; simp only [h0]; exact h
     exact wpOp_mono (fun a' w' h' => wpAny_of_mix hsel hQ l (i + 1) _ a' w' hl' hB.2 h') hw
   · obtain ⟨v, hy, h4⟩ := pure_yields h0 h3 h hQ
     exact wpAny_take h0 hsel h2 h1 (fun c a w => hQ c a _ _ w) hy (wpAny_of_mix hsel hQ l (k + 1) _ _ w hl' hB.2 h4)
theorem headM_first {n i : Nat} {oi : Oper} {v : Value} {L : Array Bool → Act → Prop} (hi : ops[i]? = some oi) (hsel : ∀ (j : Nat) (o : Oper) cs b, ops[j]? = some o → o.op ≠ .select cs b)
 (hs : Region.sinkB md ops n = true) (hc : treeB md ops n = true) (hn : n < ops.size) (hin : i < n) (hdone : ∀ done a, L done a → ∀ j ∈ Region.ready md ops done, n ≤ j) (f : Nat) :
 ∀ (done : Array Bool) (a : Act), HeadInv md ops n done →
  (∀ j oj, ops[j]? = some oj → j ≠ i → done.getD j true = false → (∀ e ∈ oj.after, Region.binds md e = true → e.on ≠ i) → oi.apart ops oj = true) →
  i ∈ Region.ready md ops done → YieldsIn P ops C oi v a → headQ P md ops C n L f (done.setIfInBounds i true) (a.put oi.dst v) → headQ P md ops C n L (f + 1) done a := by
 have below : ∀ done : Array Bool, HeadInv md ops n done → i ∈ Region.ready md ops done → ∀ j ∈ Region.ready md ops done, j < n := fun done inv hr j hj => by
  rcases Nat.lt_or_ge j n with h | h
  · exact h
  · exact absurd hj (tree_waits hs hc hn inv _ i rfl hin (mem_ready.1 hr).1 j h)
 induction f with
 | zero =>
   intro done a inv _ hr hy H
   refine ⟨fun h => (by rw [h] at hr; cases hr), fun j hj => ⟨below done inv hr j hj, ?_⟩⟩
   by_cases e : j = i
   · subst e; exact hy.qOp hi H
   · have := hdone _ _ H j (ready_mono hj e)
     have := below done inv hr j hj
     omega
 | succ f ih =>
   intro done a inv hfree hr hy H
   have hun := (mem_ready.1 hr).1
   refine ⟨fun h => (by rw [h] at hr; cases hr), fun j hj => ⟨below done inv hr j hj, ?_⟩⟩
   by_cases e : j = i
   · subst e; exact hy.qOp hi H
   · obtain ⟨hjun, oj, hoj, hall⟩ := mem_ready.1 hj
     have hnot : ∀ e ∈ oj.after, Region.binds md e = true → e.on ≠ i := fun e he hb heq => by
      have h1 := hall e he hb
      rw [heq, getD_both hun] at h1
      cases h1
     have hstep := qOp_put hoj (hfree j oj hoj e hjun hnot) (fun cs b => hsel i oi cs b hi) (fun cs b => hsel j oj cs b hoj) hy (H.2 j (ready_mono hj e)).2
     refine qOp_mono (fun a' h3 => ih (done.setIfInBounds j true) a' (inv.set hj (below done inv hr j hj)) ?_ (ready_mono hr (Ne.symm e)) h3.1 ?_) hstep
     · intro k ok hk hki hku hno
       refine hfree k ok hk hki ?_ hno
       by_cases hjk : j = k
       · subst hjk; exact hjun
       · rwa [getD_set_ne true hjk] at hku
     · rw [Array.setIfInBounds_comm _ _ e]; exact h3.2
theorem headM_lex {n g : Nat} {T : Act → Prop} (hsel : Region.noSelect ops = true) (hs : Region.sinkB md ops n = true) (hc : treeB md ops n = true) (hn : n < ops.size) (l : List Oper) :
 ∀ (k : Nat) (done : Array Bool) (a : Act), (∀ j, j < l.length → l[j]? = ops[k + j]?) → k + l.length = n → HeadInv md ops n done →
  lexMix md ops g l.length k done = true → wpQuiet P ops C T l a → headQ P md ops C n (fun done' a' => ((Region.ready md ops done').all (fun j => decide (n ≤ j)) = true ∧ mixB md ops g n done' = true) ∧ T a') l.length done a := by
 induction l with
 | nil =>
   intro k done a _ hk _ hB h
   obtain rfl : k = n := by simpa using hk
   exact ⟨by simpa [lexMix] using hB, h⟩
 | cons o l ih =>
   intro k done a hl hk inv hB h
   have h0 : ops[k]? = some o := by simpa using (hl 0 (by simp)).symm
   simp only [List.length_cons, lexMix, Bool.and_eq_true] at hB
   obtain ⟨⟨hr, hf⟩, hB'⟩ := hB
   have hkl : k + (l.length + 1) = n := by simpa using hk
   have hr' : k ∈ Region.ready md ops done := by simpa using hr
   have hq : qOp P ops C k (wpQuiet P ops C T l) a := by unfold qOp; simp only [h0]; exact h
   obtain ⟨v, hy, hK⟩ := yieldsIn_of_qOp h0 hq
   refine headM_first h0 (Region.noSelect_spec hsel) hs hc hn (by omega) (fun done' a' hL j hj => by simpa using List.all_eq_true.1 hL.1.1 j hj) l.length done a inv (Region.free_spec h0 hf) hr' hy ?_
   exact ih (k + 1) _ _ (fun j hj => by have := hl (j + 1) (by simpa using hj); simpa [Nat.add_assoc, Nat.add_comm 1 j] using this) (by omega) (inv.set hr' (by omega)) hB' hK
theorem wp_region_mix {id : Nat} {Q : Exit → Act → World → Prop} {a : Act} {w : World} {l : List Oper} (n : Nat) (hm : P.follows .mixedOrders = true) (hB : lexMixB .any l.toArray n = true)
 (hQ : ∀ c a d v w, Q (.panic c) (Act.put a d v) w → Q (.panic c) a w)
 (hC : C { w with drawn := w.drawn + 1 }) (h : wpQuiet P l.toArray C (fun a' => ∀ w', C w' → wpList P l.toArray Q (l.drop n) a' w') (l.take n) a) : (Code.region id l.toArray true).wp P Q a w := by
 simp only [lexMixB, Bool.and_eq_true, decide_eq_true_eq] at hB
 obtain ⟨⟨⟨⟨hsel, hn⟩, hs⟩, hc⟩, hlex⟩ := hB
 have hn' : n < l.length := by simpa using hn
 have htl : (l.take n).length = n := by simp; omega
 have hdl : (l.drop n).length = l.toArray.size - n := by simp
 have inv0 : HeadInv .any l.toArray n (Array.replicate l.toArray.size false) :=
  ⟨by simp, fun j oj _ hl => (by rw [getD_replicate_false] at hl; cases hl), fun t _ ht => getD_in (by simpa using ht) (getD_replicate_false _ _)⟩
 have H := headM_lex (C := C) (md := .any) (g := l.toArray.size - n) hsel hs hc hn (l.take n) 0 _ a (fun j hj => by rw [htl] at hj; simp [hj]) (by simpa using htl) inv0 (by rw [htl]; exact hlex) h
 have key := headQ_sound (Q' := Q) (g := l.toArray.size - n) (fun done a' w' hw' hL => by
  have := wpAny_of_mix (md := .any) (Q' := Q) hsel hQ (l.drop n) n done a' w' (fun j => by simp [List.getElem?_drop]) (by rw [hdl]; exact hL.1.2) (hL.2 w' hw')
  rwa [hdl] at this) _ _ _ _ hC H
 rw [htl, show n + (l.toArray.size - n) = l.toArray.size by omega] at key
 exact wp_region_any hm key
end
theorem wp_region_mix_below {P : Program} {id : Nat} {Q : Exit → Act → World → Prop} {a : Act} {w : World} {l : List Oper} (n : Nat) (hm : P.follows .mixedOrders = true) (hB : lexMixB .any l.toArray n = true)
 (hQ : ∀ c a d v w, Q (.panic c) (Act.put a d v) w → Q (.panic c) a w)
 (h : wpQuiet P l.toArray (fun w' => ∃ p : Regrown, w' = grow (redrawn w p.d) p.os) (fun a' => ∀ w', (∃ p : Regrown, w' = grow (redrawn w p.d) p.os) → wpList P l.toArray Q (l.drop n) a' w') (l.take n) a) : (Code.region id l.toArray true).wp P Q a w :=
 wp_region_mix (C := fun w' => ∃ p : Regrown, w' = grow (redrawn w p.d) p.os) n hm hB hQ ⟨⟨w.drawn + 1, #[]⟩, by rw [grow_empty]; rfl⟩ h
end Go.Proofs.YtcgmnjajodegmaaGreat.B
namespace Go.Proofs.YtcgmnjajodegmaaGreat.B
set_option linter.unusedVariables false
set_option linter.unusedSimpArgs false
set_option maxRecDepth 100000
open Go.ChangeShapes Go.WideShapes Go.RowKit Go.Sort
abbrev tCf : TypeId := 24
def cfO (n c d : Int) : Obj := .cells #[.int .i64 n, .int .i64 c, .int .u32 d] tCf (0, 0)
theorem bdNewNo (h k d : Int) (w : World) (d0 : 0 ≤ d) (hn : ¬ (1 ≤ h ∧ h ≤ 8 ∧ 1 ≤ k ∧ k ≤ 8 ∧ 0 < d)) :
 Calls Tryz.prog 8 #[.agg #[.int .i64 h, .int .i64 k, .int .u32 d]] w fun e w' => e = .returned (.tuple #[.pointer none, .int .i64 5]) ∧ Below w.heap.size w w' := by
 by_cases h1 : h < 1 ∨ 8 < h
 · exact bdNewHarts h k d w h1
 obtain ⟨m, rfl⟩ := Int.eq_ofNat_of_zero_le (show 0 ≤ h by omega)
 by_cases h2 : k < 1 ∨ 8 < k
 · exact bdNewCounts k d w m (by omega) (by omega) h2
 obtain ⟨q, rfl⟩ := Int.eq_ofNat_of_zero_le (show 0 ≤ k by omega)
 obtain rfl : d = 0 := by omega
 exact bdNewDiv w m q (by omega) (by omega) (by omega) (by omega)
structure P11 (w0 w : World) (p n c : Nat) (d : Int) (C : Bp) (y : Bx) (bk ev : Value) : Prop where
 h : BdAt w C y
 nw : C.new w0.heap.size
 en : C.n = n
 ec : C.c = c
 ed : C.div = d
 N : NAt w p n y bk ev
 M : MV w c y bk ev
 lo : Below w0.heap.size w0 w
 hp : w0.heap.size ≤ p
section
variable {w0 w w' : World} {p n c : Nat} {d : Int} {C : Bp} {y : Bx} {bk ev : Value}
theorem P11.below (P : P11 w0 w p n c d C y bk ev) (hb : Below w.heap.size w w') : P11 w0 w' p n c d C y bk ev := ⟨P.h.below hb, P.nw, P.en, P.ec, P.ed, P.N.below hb, P.M.below hb, tr P.lo hb, P.hp⟩
theorem qnLoadB {o : Oper} {a : Act} {C : World → Prop} {K : Act → Prop} {b : Nat} {x : Bx} (y : Operand) (ho : o.op = .load 47 y) (hx : a.eval y = .pointer (some ⟨b, 0, none⟩)) (hg : ∀ w, C w → NAt w b n x bk ev) (h : K (a.put o.dst (.agg (ml n x bk ev).toArray))) : o.quiet Tryz.prog a C K :=
 quiet_load_part _ y ho b 0 hx _ (ml n x bk ev) (fun w hw => hg w hw) Tryz.underlying47 rfl (by rw [ml_len]; exact iM11) (part_all _) h
theorem yDoP (K N a v : Int) (P : P11 w0 w p n c d C y bk ev) (hl : y.es.length < 4294967290) (n0 : 0 ≤ N) (n1 : N < 18446744073709551616) (a0 : 0 ≤ a) (a1 : a < 4294967296) (v0 : 0 ≤ v) (v1 : v < 4294967296) :
 Calls Tryz.prog 13 #[.pointer (some ⟨C.b, 0, none⟩), .agg (ml n y bk ev).toArray, .agg #[.int .i64 K, .int .u64 N, .int .u32 a, .int .u32 v]] w fun e w' =>
  ∃ C' y' bk' ev', e = .returned (.tuple #[.pointer (some ⟨C'.b, 0, none⟩), .agg (ml n y' bk' ev').toArray, .bool true]) ∧ Nx n c y y' ∧ NAt w' p n y bk ev ∧ (bk'.oneCell' = true ∧ ev'.oneCell' = true) ∧ Below w0.heap.size w0 w' ∧
   ∀ w'', NAt w'' p n y' bk' ev' → Off (· = p) w' w'' → P11 w0 w'' p n c d C' y' bk' ev' := by
 have h := yDo C y bk ev K N a v w0.heap.size w P.h P.nw P.lo.size (P.ec ▸ P.M) hl n0 n1 a0 a1 v0 v1
 rw [P.en] at h
 refine h.mono ?_
 rintro e w' ⟨C', y', bk', ev', rfl, h1, h2, ⟨h3, h4, h5⟩, h6, h7, h8, h9⟩
 have hN := P.N.kp h9
 have hc : C'.c = c := h4.trans P.ec
 have hM : MV w' c y' bk' ev' := P.ec ▸ h6
 rw [P.en, P.ec] at h7
 refine ⟨C', y', bk', ev', by rw [P.en], h7, hN, hM.one, P.lo.trans h8, fun w'' hN' ho => ⟨h1.offk ho hN (by decide), h2, h3.trans P.en, hc, h5.trans P.ed, hN', mv_offM hM ho hN, Off.toBelow (P.lo.trans h8) ho (fun k hk e => by have := P.hp; omega) (Nat.le_refl _), P.hp⟩⟩
end
set_option maxHeartbeats 12800000 in
theorem boardPlays1 (w : World) (n c : Nat) (d : Int) (n0 : 1 ≤ n) (n8 : n ≤ 8) (c0 : 1 ≤ c) (c8 : c ≤ 8) (d0 : 1 ≤ d) (d1 : d < 4294967296) (y : Option Addr) (len cap : Nat) (hy : len = 0 ∨ ∃ b off, y = some ⟨b, off, none⟩ ∧ len ≤ cap ∧ cap ≤ maxLen ∧ b < w.heap.size ∧ ∀ i, i < cap → ∃ K n o v : Int, w.cell? ⟨b, off + i * 4, none⟩ = some (.int .i64 K) ∧ w.cell? ⟨b, off + i * 4 + 1, none⟩ = some (.int .u64 n) ∧ w.cell? ⟨b, off + i * 4 + 2, none⟩ = some (.int .u32 o) ∧ w.cell? ⟨b, off + i * 4 + 3, none⟩ = some (.int .u32 v) ∧
 (-9223372036854775808 ≤ K ∧ K < 9223372036854775808) ∧ (0 ≤ n ∧ n < 18446744073709551616) ∧ (0 ≤ o ∧ o < 4294967296) ∧ (0 ≤ v ∧ v < 4294967296)) :
 Calls Tryz.prog 3 #[.agg #[.int .i64 n, .int .i64 c, .int .u32 d], .slice y len cap] w fun e w' => e = .returned (.bool true) ∧ Below w.heap.size w w' := by
 have HY := Lib.hid hy
 have HNEW := Lib.hid (fun w' => bdNew n c d w' n0 n8 c0 c8 d0 d1)
 have HRT := Lib.hid (fun w' => yRightYes n c d w' (by omega) (by omega) (by omega) (by omega) (by omega))
 have HYN := Lib.hid (fun w' => yNew n c d w' n8 c8)
 have HC := Lib.hid (show (w.alloc (cfO n c d)).heap[w.heap.size]? = some (cfO n c d) from blk_new w _)
 have HB := Lib.hid (trA (tr0 w) (cfO n c d))
 clear hy n0 n8 c0 c8 d0 d1
 go_enter Tryz.func3, Tryz.ntmps3
 go_upto_region 1 with (fail)
 rw [show Obj.cells #[.int .i64 n, .int .i64 c, .int .u32 d] 24 (0, 0) = cfO n c d from rfl]
 generalize w.alloc (cfO n c d) = W at *
 have e0 := blk_cell HC.out 0
 have e1 := blk_cell HC.out 1
 have e2 := blk_cell HC.out 2
 simp at e0 e1 e2
 go_upto_region 2 with (go_at_call 8; refine (HNEW.out _).mono ?_; rintro e w1 ⟨B, rfl, h1, hb, h3, h7, h8, h9⟩; have HH := Lib.hid h1; have HNW := Lib.hid (show B.new w.heap.size from fun k hk => Nat.le_trans HB.out.size (h3 k hk)); have HE := Lib.hid (And.intro h7 (And.intro h8 h9)); have HC := Lib.hid (blk_below hb HC.out (lt_of_block HC.out)); have HB := Lib.hid (tr HB.out hb); have HSZ := Lib.hid HB.out.size; clear e0 e1 e2 h1 hb h3 h7 h8 h9 HNEW)
 have e0 := blk_cell HC.out 0
 have e1 := blk_cell HC.out 1
 have e2 := blk_cell HC.out 2
 simp at e0 e1 e2
 go_upto_region 4 with (go_at_call 9; refine (HRT.out _).mono ?_; rintro e w2 ⟨rfl, rfl⟩)
 have CF := Lib.hid (fun w' (a : BdAt w' B (bx0 d)) => by have := bdConfig B (bx0 d) w' a; rw [HE.out.1, HE.out.2.1, HE.out.2.2] at this; exact this)
 have z0 := self_eq (n : Int)
 have z1 := self_eq (c : Int)
 have z2 := self_eq d
 have hl := lt_of_block HC.out
 have hg := gcell
 have hf := gfrozen
 clear HRT
 refine wp_region_quiet_below (by kernel_rfl) (by kernel_rfl) ?_
 repeat (first
  | go_big_quiet_skip
  | (go_big_quiet_want; first
      | (go_big_quiet_op; first
          | go_big_quiet_on
          | go_big_quiet_call (first
             | (go_at_call 11; exact Calls.regrown_of (CF.out _ (HH.out.below (below_regrown w2 _ _))))))))
 refine wpQuiet_nil ?_
 intro _ hw'
 obtain ⟨⟨dq, osq⟩, hw''⟩ := hw'
 subst hw''
 have hb := below_regrown w2 dq osq
 have HH := Lib.hid (HH.out.below hb)
 have HC := Lib.hid (blk_below hb HC.out (lt_of_block HC.out))
 have HB := Lib.hid (tr HB.out hb)
 clear e0 e1 e2 z0 z1 z2 hl hb
 dsimp only at HH HC HB ⊢
 generalize grow (redrawn w2 dq) osq = w3 at *
 have e0 := blk_cell HC.out 0
 have e1 := blk_cell HC.out 1
 have e2 := blk_cell HC.out 2
 simp at e0 e1 e2
 go_upto_region 7 with (first | (go_at_call 12; refine (HYN.out _).mono ?_; rintro e w4 ⟨bk, ev, rfl, M, hb⟩; have HM := Lib.hid M; have HH := Lib.hid (HH.out.below hb); have HB := Lib.hid (tr HB.out hb); clear M hb e0 e1 e2) | (rw [zM11_eq]; refine nStoreB rfl (.tmp 7) (.tmp 50) rfl rfl (bx0 d) bk ev _ rfl (blk_new w4 zM11) rfl HM.out.one ?_; intro w5 hN5 ho5; have hb := Off.toBelow (trA (tr0 w4) zM11) ho5 (fun k hk e => by omega) (Nat.le_refl _); have HP := Lib.hid (show P11 w w5 w4.heap.size n c d B (bx0 d) bk ev from ⟨HH.out.below hb, HNW.out, HE.out.1, HE.out.2.1, HE.out.2.2, hN5, HM.out.below hb, tr HB.out hb, HB.out.size⟩); clear hb hN5 ho5))
 generalize w4.heap.size = p at *
 clear HH HM HB HC HNW HE HSZ
 have hx0 : (bx0 d).es.length ≤ 0 := Nat.le_refl _
 generalize bx0 d = x0 at *
 go_wp2_with fail
 go_loopw [5, 8] (fun l i wr => ∃ (k : Nat) (C : Bp) (x : Bx) (bk ev : Value), k ≤ len ∧ k ≤ 60 ∧ i = .int .i64 k ∧ l = .pointer (some ⟨C.b, 0, none⟩) ∧ x.es.length ≤ k ∧ P11 w wr p n c d C x bk ev) (fun l i wr => len - (intOf i).toNat)
 case atStart => exact ⟨0, B, x0, bk, ev, by omega, by omega, rfl, rfl, hx0, HP.out⟩
 case round =>
  clear HP hx0
  obtain ⟨k, C, x, bk, ev, hk, hkl, rfl, rfl, hxl, P⟩ := hrel
  have HP := Lib.hid P
  clear P
  by_cases hlt : k < len ∧ k < 60
  · obtain ⟨hlt, hlm⟩ := hlt
    rcases HY.out with hy | ⟨z, off, rfl, hlc, hcm, hbl, hz⟩
    · omega
    unfold maxLen at hcm
    obtain ⟨K, N, a, v, c0, c1, c2, c3, ⟨k0, kt1⟩, ⟨n0, n1⟩, ⟨a0, a1⟩, ⟨v0, v1⟩⟩ := hz k (by omega)
    rw [← HP.out.lo.cell (p := ⟨z, _, none⟩) (by simpa using hbl)] at c0 c1 c2 c3
    clear hz
    have hbw : z < wr.heap.size := by have := HP.out.lo.size; omega
    have hg := gcell
    go_wp2_with fail
    refine wp_region_mix_below 6 (by kernel_rfl) (by kernel_rfl) (by intro _ _ d _ _ h; cases d <;> exact h) ?_
    simp only [List.take_succ_cons, List.take_zero, List.drop_succ_cons, List.drop_zero]
    repeat (first
     | go_big_quiet_skip
     | (go_big_quiet_want; first
         | (refine qnLoadB (.tmp 7) rfl rfl HP.out.N.grown ?_; go_simp; go_big_quiet_on)
         | (go_big_quiet_op; first | go_big_quiet_on)))
    refine wpQuiet_nil ?_
    intro _ hw'
    obtain ⟨⟨dq, osq⟩, hw''⟩ := hw'
    subst hw''
    have HP := Lib.hid (HP.out.below (below_regrown wr dq osq))
    clear c0 c1 c2 c3 hg hbw
    dsimp only at HP ⊢
    generalize grow (redrawn wr dq) osq = W1 at *
    go_upto_region 12 with (first | (go_at_call 13; refine (yDoP K N a v HP.out (by omega) n0 n1 a0 a1 v0 v1).mono ?_; rintro e W2 ⟨C', x', bk', ev', rfl, hnx, hN2, hone, hlo, hend⟩; have HNX := Lib.hid hnx; have HN2 := Lib.hid hN2; have HEND := Lib.hid hend; have HONE := Lib.hid hone; clear hnx hN2 hone hlo hend) | (refine nStoreB rfl (.tmp 7) (.tmp 70) rfl rfl x' bk' ev' _ rfl HN2.out (by rw [List.size_toArray, ml_len]) HONE.out ?_; intro W3 hN3 ho3; have HP := Lib.hid (HEND.out W3 hN3 ho3); clear hN3 ho3 HEND))
    have hxl2 : x'.es.length ≤ k + 1 := by have := HNX.out.len; omega
    have AL := Lib.hid (fun w' (P : P11 w w' p n c d C' x' bk' ev') => by have := yAlike C' x' bk' ev' w' P.h (P.ec ▸ P.M) (by omega); rw [P.en] at this; exact this)
    go_wp2_with (first | (refine nLoadBg (.tmp 7) rfl (by kernel_rfl) rfl HP.out.N ?_) | (go_at_call 14; refine (AL.out _ HP.out).mono ?_; rintro e W4 ⟨rfl, hb⟩; have HP := Lib.hid (HP.out.below hb); clear hb))
    go_roundw
    case rel => exact ⟨k + 1, C', x', bk', ev', by omega, by omega, by go_num, rfl, hxl2, HP.out⟩
    case measure => simp [intOf]; omega
  · by_cases hlt2 : k < len
    all_goals
     go_wp2_with fail
     refine (bdKnown _).mono ?_
     rintro e w1 ⟨rfl, hb1⟩
     go_wp2_with fail
     go_ret
     exact ⟨rfl, tr HP.out.lo hb1⟩
set_option maxHeartbeats 3200000 in
theorem boardPlays0 (w : World) (n c d : Int) (d0 : 0 ≤ d) (hn : ¬ (1 ≤ n ∧ n ≤ 8 ∧ 1 ≤ c ∧ c ≤ 8 ∧ 0 < d)) (y : Option Addr) (len cap : Nat) :
 Calls Tryz.prog 3 #[.agg #[.int .i64 n, .int .i64 c, .int .u32 d], .slice y len cap] w fun e w' => e = .returned (.bool true) ∧ Below w.heap.size w w' := by
 have HNEW := Lib.hid (fun w' => bdNewNo n c d w' d0 hn)
 have HRT := Lib.hid (fun w' => yRightNo n c d w' hn)
 have HC := Lib.hid (show (w.alloc (cfO n c d)).heap[w.heap.size]? = some (cfO n c d) from blk_new w _)
 have HB := Lib.hid (trA (tr0 w) (cfO n c d))
 clear hn d0
 go_enter Tryz.func3, Tryz.ntmps3
 go_upto_region 1 with (fail)
 rw [show Obj.cells #[.int .i64 n, .int .i64 c, .int .u32 d] 24 (0, 0) = cfO n c d from rfl]
 generalize w.alloc (cfO n c d) = W at *
 have e0 := blk_cell HC.out 0
 have e1 := blk_cell HC.out 1
 have e2 := blk_cell HC.out 2
 simp at e0 e1 e2
 go_upto_region 2 with (go_at_call 8; refine (HNEW.out _).mono ?_; rintro e w1 ⟨rfl, hb⟩; have HC := Lib.hid (blk_below hb HC.out (lt_of_block HC.out)); have HB := Lib.hid (tr HB.out hb); clear e0 e1 e2 hb HNEW)
 have e0 := blk_cell HC.out 0
 have e1 := blk_cell HC.out 1
 have e2 := blk_cell HC.out 2
 simp at e0 e1 e2
 go_wp2_with (go_at_call 9; refine (HRT.out _).mono ?_; rintro e w2 ⟨rfl, rfl⟩)
 refine (bdKnown _).mono ?_
 rintro e w1 ⟨rfl, hb1⟩
 go_wp2_with fail
 go_ret
 exact ⟨rfl, tr HB.out hb1⟩
end Go.Proofs.YtcgmnjajodegmaaGreat.B
