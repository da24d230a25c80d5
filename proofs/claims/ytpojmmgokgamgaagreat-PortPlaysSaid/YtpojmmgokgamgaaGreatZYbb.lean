/- A part of the proof of a law of layer 12: bb. -/
import Derived.Test.YtpojmmgokgamgaaGreatZYba
set_option linter.unusedVariables false
set_option linter.unusedSimpArgs false
set_option maxHeartbeats 12800000
set_option maxRecDepth 100000
namespace Go.Proofs.YtpojmmgokgamgaaGreat.B
open Go.Proofs.Tryz
open Go.ChangeShapes Go.WideShapes Go.RowKit Go.Sort
theorem kY.own {s : Nat} {w : World} {v : Value} {gs : List Int} (h : kY s w v gs) : ∃ y len cap, v = .slice y len cap := by obtain ⟨y, cap, rfl, _⟩ := h; exact ⟨_, _, _, rfl⟩
def pt0 (x : Bx) (gs : List Int) : Pt := ⟨x, gs, 0, 0, x.es.length⟩
theorem aFQ (a b c : Int) (d : Option Addr) (y : Option Addr) (l k : Nat) (w : World) : (Instr.build 85 #[(0, .agg #[.int .i64 a, .int .u64 b, .int .u32 c]), (1, .pointer d), (2, .slice y l k)]).run prog w = .ok (.agg #[.int .i64 a, .int .u64 b, .int .u32 c, .pointer d, .slice y l k]) w := by kernel_rfl
theorem aKM (c : Int) (w : World) : (Instr.build 82 #[(2, .int .u32 c)]).run prog w = .ok (.agg #[.int .i64 0, .int .u64 0, .int .u32 c]) w := by kernel_rfl
theorem uT {P : Prop} (h : P := by
 go_enter func7, ntmps7
 go_wp2_with fail
 go_ret2
 exact ⟨rfl, aI _⟩
 ) : P := h
theorem aIu (v : Value) (w : World) : Calls prog 7 #[.pointer none, v] w fun e w' => e = .returned (.tuple #[.pointer none, .int .i64 1]) /\ Below w.heap.size w w' := by
 exact uT
theorem aHB (b : Nat) (y : Option Addr) (len cap : Nat) (w : World) (h : 64 < len) : Calls prog 7 #[.pointer (some ⟨b, 0, none⟩), .slice y len cap] w fun e w' => e = .returned (.tuple #[.pointer none, .int .i64 6]) /\ Below w.heap.size w w' := by
 have hd : decide ((64 : Int) < len) = true := decide_eq_true (by omega)
 exact uT
theorem aNq (B : Bp) (x : Bx) (s : Nat) (v : Value) (gs : List Int) (w : World) (H : bC w B x) (ht : x.told) (G : kY s w v gs) (hl : gs.length <= 64) :
 Calls prog 7 #[.pointer (some ⟨B.b, 0, none⟩), v] w fun e w' => ∃ q gv, e = .returned (.tuple #[.pointer (some ⟨q, 0, none⟩), .int .i64 0]) /\ w.heap.size <= q /\ aY w' q B (pt0 x gs) gv /\ Below w.heap.size w w' := by
 have HR := Hd (zB B x w H ht)
 have HCT := Hd (fun w' (g : kY s w' v gs) => aKQ s v gs w' g hl)
 have HH := Hd H
 have HG := Hd G
 have hbp := aFQ
 have hbc := aKM
 obtain ⟨y, cap, rfl, _, _, _⟩ := G
 have hd : decide ((64 : Int) < gs.length) = false := decide_eq_false (by omega)
 clear H ht hl
 go_enter func7, ntmps7
 go_wp2_with fail
 refine (HR.out).mono ?_
 rintro e w1 ⟨rfl, hb⟩
 have HH1 := Hd (HH.out.below hb)
 have HG1 := Hd (HG.out.below hb)
 have HB := Hd hb
 clear hb
 go_wp2_with fail
 refine (HCT.out _ HG1.out).mono ?_
 rintro e w2 ⟨gv, rfl, hg, hb⟩
 obtain ⟨yy, ll, cc, rfl⟩ := hg.own
 have HH2 := HH1.out.below hb
 have hb2 := tr HB.out hb
 clear hb HCT HG1 HH1 HB
 go_wp2_with fail
 go_ret2
 have hbx := aE (aI w2) (.cells (pcl (pt0 x gs) B.b (.slice yy ll cc)).toArray zP (0, 0))
 exact ⟨_, _, rfl, hb2.size, ⟨aD w2 _, HH2.below hbx, hg.below hbx⟩, tr hb2 hbx⟩
theorem aDv (q : Nat) (y : Option Addr) (len cap : Nat) (w : World) (h : 64 < len) : Calls prog 21 #[.pointer (some ⟨q, 0, none⟩), .slice y len cap] w fun e w' => e = .returned (.int .i64 6) /\ Below w.heap.size w w' := by
 have hd : decide ((64 : Int) < len) = true := decide_eq_true (by omega)
 go_enter func21, ntmps21
 go_wp2_with fail
 go_ret
 exact ⟨rfl, aI _⟩
def Pt.gap' (p : Pt) (gs : List Int) : Pt := { p with gs := gs }
theorem aY.setG {w : World} {q : Nat} {B : Bp} {p : Pt} {gv gv' : Value} {gs : List Int} (H : aY w q B p gv) (G : kY 0 w gv' gs) : aY (w.setCell ⟨q, 4, none⟩ gv') q B (p.gap' gs) gv' := by
 refine ⟨?_, H.bd.off (aG w q 4 gv') fun k hk e => H.noB (e ▸ hk), G.off (aG w q 4 gv') fun k _ hk e => ?_⟩
 . rw [aS H.cell, fT]; rfl
 . rcases hk with hk | hk
   . omega
   . exact H.noG hk e
theorem aNi (q : Nat) (B : Bp) (p : Pt) (gv : Value) (s : Nat) (v : Value) (gs : List Int) (w : World) (H : aY w q B p gv) (G : kY s w v gs) (hl : gs.length <= 64) :
 Calls prog 21 #[.pointer (some ⟨q, 0, none⟩), v] w fun e w' => e = .returned (.int .i64 0) /\ ∃ gv', bQ q B (p.gap' gs) gv' w w' := by
 have HCT := Hd (aKQ s v gs w G hl)
 have HH := Hd H
 have hq := H.lt
 obtain ⟨y, cap, rfl, _, _, _⟩ := G
 have hd : decide ((64 : Int) < gs.length) = false := decide_eq_false (by omega)
 clear H hl
 go_enter func21, ntmps21
 go_wp2_with fail
 refine (HCT.out).mono ?_
 rintro e w2 ⟨gv', rfl, hg, hb⟩
 have HH2 := Hd (HH.out.below hb)
 have HO := Hd (aF.ofBelow (S := fun k => k = q \/ B.own k) hb)
 have HG2 := Hd hg
 clear hb HCT HH hg
 obtain ⟨yy, ll, cc, rfl⟩ := HG2.out.own
 have f4 := HH2.out.free 4
 have c4 := HH2.out.c4
 have hq2 := HH2.out.lt
 have HX := Hd (show bQ q B (p.gap' gs) (.slice yy ll cc) w (w2.setCell ⟨q, 4, none⟩ (.slice yy ll cc)) from ⟨B.ev, HH2.out.setG HG2.out, HO.out.trans (aF.ofSetCell w2 ⟨q, 4, none⟩ (.slice yy ll cc) (.inl rfl)), fun k hk => .inl hk⟩)
 go_wp2_with fail
 go_ret
 exact ⟨rfl, _, HX.out⟩
theorem aD1 (q : Nat) (w : World) : Calls prog 22 #[.pointer (some ⟨q, 0, none⟩), .pointer none] w fun e w' => e = .returned (.pointer none) /\ Below w.heap.size w w' := by
 go_enter func22, ntmps22
 go_wp2_with fail
 go_ret
 exact ⟨rfl, aI _⟩
theorem aNL (q : Nat) (B C : Bp) (p : Pt) (y : Bx) (gv : Value) (w : World) (H : aY w q B p gv) (HC : bC w C y) (hl : p.gs.length <= 64) :
 Calls prog 22 #[.pointer (some ⟨q, 0, none⟩), .pointer (some ⟨C.b, 0, none⟩)] w fun e w' => ∃ q' gv', e = .returned (.pointer (some ⟨q', 0, none⟩)) /\ w.heap.size <= q' /\ aY w' q' C { p with x := y } gv' /\ Below w.heap.size w w' := by
 have HCT := Hd (fun w' (g : kY 0 w' gv p.gs) => aKQ 0 gv p.gs w' g hl)
 have HH := Hd H
 have HHC := Hd HC
 have hbp := aFQ
 obtain ⟨yy, cap, rfl, _, _, _⟩ := H.g
 have hX := Hd (show (fun w' : World => w'.heap[q]? = some (.cells #[.int .i64 p.md, .int .u64 p.sp, .int .u32 p.se, .pointer (some ⟨B.b, 0, none⟩), .slice yy p.gs.length cap] zP (0, 0))) w.drew from H.cell)
 clear H HC hl
 go_enter func22, ntmps22
 go_upto_region 3 with (fail)
 refine wp_region_held_drew (S := fun w' => w'.heap[q]? = some (.cells #[.int .i64 p.md, .int .u64 p.sp, .int .u32 p.se, .pointer (some ⟨B.b, 0, none⟩), .slice yy p.gs.length cap] zP (0, 0))) (by kernel_rfl) hX.out (fun _ => ?_)
 refine eA (i := 0) (v := .pointer (some ⟨q, 0, none⟩)) hX.out ?_
 simp only [iA, hJ, hI, Act.put, dH, dF, dG]
 refine eA (i := 1) (v := .pointer (some ⟨q, 0, none⟩)) hX.out ?_
 simp only [iA, hJ, hI, Act.put, dH, dF, dG]
 refine eA (i := 2) (v := .pointer (some ⟨q, 0, none⟩)) hX.out ?_
 simp only [iA, hJ, hI, Act.put, dH, dF, dG]
 refine rQ (i := 3) (v := .agg #[.int .i64 p.md, .int .u64 p.sp, .int .u32 p.se]) rfl (by kernel_rfl) (fun _ _ _ h => h) (fun w' hSw => by have c0 := aA hSw 0; have c1 := aA hSw 1; have c2 := aA hSw 2; simp only [List.getElem?_toArray, List.getElem?_cons_zero, List.getElem?_cons_succ] at c0 c1 c2; clear hSw; go_simp) hX.out ?_
 simp only [iA, hJ, hI, Act.put, dH, dF, dG]
 refine eA (i := 4) (v := .pointer (some ⟨C.b, 0, none⟩)) hX.out ?_
 simp only [iA, hJ, hI, Act.put, dH, dF, dG]
 refine eA (i := 5) (v := .pointer (some ⟨q, 0, none⟩)) hX.out ?_
 simp only [iA, hJ, hI, Act.put, dH, dF, dG]
 refine eA (i := 6) (v := .pointer (some ⟨q, 0, none⟩)) hX.out ?_
 simp only [iA, hJ, hI, Act.put, dH, dF, dG]
 refine eA (i := 7) (v := .pointer (some ⟨q, 4, none⟩)) hX.out ?_
 simp only [iA, hJ, hI, Act.put, dH, dF, dG]
 refine rQ (i := 8) (v := .slice yy p.gs.length cap) rfl (by kernel_rfl) (fun _ _ _ h => h) (fun w' hSw => by have c4 := aA hSw 4; simp only [List.getElem?_toArray, List.getElem?_cons_zero, List.getElem?_cons_succ] at c4; clear hSw; go_simp) hX.out ?_
 simp only [iA, hJ, hI, Act.put, dH, dF, dG]
 refine nP (i := 9) (by kernel_rfl) rfl fun K hK => ?_
 go_simp
 go_wp2_with (go_at_call 26; refine (HCT.out _ (HH.out.g.below (jH (aI w)))).mono ?_; rintro e w1 ⟨gv', rfl, hg, hb⟩; have hX := Hd (aC hb hX.out (lt_of_block hX.out)); have HB := Hd (tr (jH (aI w)) hb); have HG := Hd hg; clear hb hg)
 obtain ⟨y2, l2, k2, rfl⟩ := HG.out.own
 refine hK.out _ _ hX.out (fun _ => ?_)
 clear hK K
 refine eA (i := 10) (v := .agg #[.int .i64 p.md, .int .u64 p.sp, .int .u32 p.se, .pointer (some ⟨C.b, 0, none⟩), .slice y2 l2 k2]) hX.out ?_
 simp only [iA, hJ, hI, Act.put, dH, dF, dG]
 refine nP (i := 11) (by kernel_rfl) rfl fun K hK => ?_
 go_simp
 have hbx := aE (aI w1) (.cells (pcl { p with x := y } C.b (.slice y2 l2 k2)).toArray zP (0, 0))
 have hF := Hd (show ∃ q' gv', (.returned (.pointer (some ⟨w1.heap.size, 0, none⟩)) : Ending) = .returned (.pointer (some ⟨q', 0, none⟩)) /\ w.heap.size <= q' /\ aY (w1.alloc (.cells (pcl { p with x := y } C.b (.slice y2 l2 k2)).toArray zP (0, 0))) q' C { p with x := y } gv' /\ Below w.heap.size w (w1.alloc (.cells (pcl { p with x := y } C.b (.slice y2 l2 k2)).toArray zP (0, 0))) from
  ⟨_, _, rfl, HB.out.size, ⟨aD w1 _, (HHC.out.below HB.out).below hbx, HG.out.below hbx⟩, tr HB.out hbx⟩)
 have hX2 := aC hbx hX.out (lt_of_block hX.out)
 clear hbx
 refine hK.out _ _ hX2 (fun _ => ?_)
 clear hK K
 refine eA (i := 12) (v := .pointer (some ⟨w1.heap.size, 0, none⟩)) hX2 ?_
 simp only [iA, hJ, hI, Act.put, dH, dF, dG]
 refine wpAnyH_done (by kernel_rfl) ?_ _
 clear hX hX2 HB HG HH HHC HCT hbp
 go_wp2_with fail
 go_ret
 exact hF.out
def aCl (md : Region.Mode) (ops : Array Oper) (n : Nat) : Bool :=
 (List.range ops.size).all fun t => decide (t <= n) || (List.range t).any fun j => decide (n <= j) && Region.waitsFor md ops t j
def aF9 (ops : Array Oper) (k : Nat) : Bool :=
 match ops[k]? with
 | some o => o.guard.isNone && (match o.op with | .move _ | .assign _ | .extract _ _ => true | _ => false)
 | none => false
def aEJ (md : Region.Mode) (ops : Array Oper) : Nat -> Nat -> Array Bool -> Bool
 | 0, _, done => (Region.ready md ops done).isEmpty
 | g + 1, k, done => (decide (Region.ready md ops done = [k]) || ((Region.ready md ops done).contains k && Region.free md ops done k && aF9 ops k)) && aEJ md ops g (k + 1) (done.setIfInBounds k true)
def sE (md : Region.Mode) (ops : Array Oper) (g : Nat) : Nat -> Nat -> Array Bool -> Bool
 | 0, k, done => (Region.ready md ops done).all (fun j => decide (k <= j)) && aEJ md ops g k done
 | f + 1, k, done => (Region.ready md ops done).contains k && Region.free md ops done k && sE md ops g f (k + 1) (done.setIfInBounds k true)
def yC (md : Region.Mode) (ops : Array Oper) (n : Nat) : Bool :=
 Region.noSelect ops && decide (n < ops.size) && Region.sinkB md ops n && aCl md ops n && sE md ops (ops.size - n) n 0 (Array.replicate ops.size false)
section
variable {P : Program} {ops : Array Oper} {md : Region.Mode} {C : World -> Prop}
theorem aCK {n : Nat} {listed : Array Bool} (hs : Region.sinkB md ops n = true) (hc : aCl md ops n = true) (hn : n < ops.size) (inv : HeadInv md ops n listed) :
 ∀ (d i : Nat), n - i = d -> i < n -> listed.getD i true = false -> ∀ t, n <= t -> t ∉ Region.ready md ops listed := by
 intro d
 induction d using Nat.strongRecOn with
 | _ d ih =>
   intro i hd hi hun t ht hr
   obtain ⟨_, ot, hot, hall⟩ := mem_ready.1 hr
   have htlt : t < ops.size := (Array.getElem?_eq_some_iff.1 hot).1
   by_cases htn : t = n
   . subst htn
     have h1 := List.all_eq_true.1 hs i (List.mem_range.2 hi)
     obtain ⟨j, hj, hj2⟩ := List.any_eq_true.1 h1
     simp only [Bool.and_eq_true, decide_eq_true_eq] at hj2
     obtain ⟨oj, hoj, e, he, hb, hon⟩ := Region.waitsFor_spec hj2.2
     have hjle : j <= t := by have := List.mem_range.1 hj; omega
     by_cases hjt : j = t
     . subst hjt
       have : oj = ot := Option.some.inj (hoj.symm.trans hot)
       subst this
       have h2 := hall e he hb
       rw [hon, getD_both hun] at h2
       cases h2
     . cases hl : listed.getD j false with
       | true =>
         have h2 := inv.closed j oj hoj hl e he hb
         rw [hon, getD_both hun] at h2
         cases h2
       | false =>
         have hjs : j < listed.size := by rw [inv.size]; omega
         exact ih (t - j) (by omega) j rfl (by omega) (getD_in hjs hl) t (Nat.le_refl _) hr
   . have h1 := List.all_eq_true.1 hc t (List.mem_range.2 htlt)
     simp only [Bool.or_eq_true, decide_eq_true_eq] at h1
     rcases h1 with h1 | h1
     . omega
     . obtain ⟨j, hj, hj2⟩ := List.any_eq_true.1 h1
       simp only [Bool.and_eq_true, decide_eq_true_eq] at hj2
       have hjt := List.mem_range.1 hj
       obtain ⟨o', ho', e, he, hb, hon⟩ := Region.waitsFor_spec hj2.2
       have : o' = ot := Option.some.inj (ho'.symm.trans hot)
       subst this
       have h2 := hall e he hb
       rw [hon, getD_both (inv.tail j hj2.1 (by omega))] at h2
       cases h2
theorem sW {α : Type} (x : α) (w : World) : ((pure x : Sem α).runT P w #[]).2 = #[] := rfl
theorem xC {P : Prop} (h : P := by
 rcases h with h | ⟨h, _⟩
 . unfold Oper.wp at h
   rw [hr w] at h
   exact ⟨_, .inl ⟨hw, hr⟩, h⟩
 . have := h.1
   unfold execOp at this
   rw [hx] at this
   simp only [sW] at this
   simp at this
 ) : P := h
theorem aAb {Q : Exit -> Act -> World -> Prop} {k : Nat} {o : Oper} {rest : List Oper} {a : Act} {w : World} (ho : ops[k]? = some o) (hp : aF9 ops k = true) (h : wpList P ops Q (o :: rest) a w) (hQ : ∀ c a d v w, Q (.panic c) (Act.put a d v) w -> Q (.panic c) a w) :
 ∃ v, Yields P ops o v a /\ wpList P ops Q rest (a.put o.dst v) w := by
 unfold aF9 at hp
 simp only [ho, Bool.and_eq_true] at hp
 obtain ⟨hg, hp⟩ := hp
 have hw : Region.wanted o (yielded ops a.tmps) = true := by
  have : o.guard = none := by simpa using hg
  simp [Region.wanted, this]
 unfold wpList at h
 rw [if_pos hw] at h
 split at hp
 . rename_i x hx
   have hr : ∀ w, (execOp a.eval o).run P w = .ok (.value (a.eval x)) w := BigFrame.run_move x hx
   exact xC
 . rename_i x hx
   have hr : ∀ w, (execOp a.eval o).run P w = .ok (.value (a.eval x)) w := BigFrame.run_assign x hx
   exact xC
 . rename_i x i hx
   have hE : execOp a.eval o = (do let y <- Instr.extract (a.eval x) i; pure (Next.value y)) := by
    unfold execOp
    rw [hx]
   unfold Oper.wp Oper.asks at h
   rw [hE] at h
   have key : ∀ u : Value, a.eval x = u -> ∃ v, Yields P ops o v a /\ wpList P ops Q rest (a.put o.dst v) w := by
    intro u hu
    rw [hu] at h
    by_cases ht : ∃ vs y, u = .tuple vs /\ vs[i]? = some y
    . obtain ⟨vs, y, rfl, hy⟩ := ht
      have hr : ∀ w, (execOp a.eval o).run P w = .ok (.value y) w := fun w => by
       rw [hE, hu]
       simp [Instr.extract, hy]
      refine ⟨y, .inl ⟨hw, hr⟩, ?_⟩
      rcases h with h | ⟨h, _⟩
      . simpa [Instr.extract, hy, Oper.upon] using h
      . have := h.1
        simp [Instr.extract, hy, sW] at this
        exact absurd (show noRoomEvent ∈ #[] from this) (by simp)
    . exfalso
      rcases h with h | ⟨h, _⟩
      . cases u
        case tuple vs =>
         cases hv : vs[i]? with
         | none => simp [Instr.extract, hv, stuck, Oper.upon] at h
         | some y => exact ht ⟨vs, y, rfl, hv⟩
        all_goals simp [Instr.extract, stuck, Oper.upon] at h
      . have := h.1
        cases u
        case tuple vs =>
         cases hv : vs[i]? with
         | none => simp [Instr.extract, hv, stuck] at this; exact absurd (show noRoomEvent ∈ #[] from this) (by simp)
         | some y => exact ht ⟨vs, y, rfl, hv⟩
        all_goals (simp [Instr.extract, stuck] at this; exact absurd (show noRoomEvent ∈ #[] from this) (by simp))
   exact key _ rfl
 . cases hp
theorem lA {Q' : Exit -> Act -> World -> Prop} (hsel : Region.noSelect ops = true) (hQ : ∀ c a d v w, Q' (.panic c) (Act.put a d v) w -> Q' (.panic c) a w) :
 ∀ (l : List Oper) (k : Nat) (listed : Array Bool) (a : Act) (w : World), (∀ j, l[j]? = ops[k + j]?) -> aEJ md ops l.length k listed = true -> wpList P ops Q' l a w -> wpAny P md ops Q' l.length listed a w
 | [], _, _, _, _, _, hB, h => ⟨by simpa [aEJ] using hB, h⟩
 | o :: l, k, listed, a, w, hl, hB, h => by
   have h0 : ops[k]? = some o := by simpa using (hl 0).symm
   simp only [List.length_cons, aEJ, Bool.and_eq_true, Bool.or_eq_true, decide_eq_true_eq] at hB
   have hl' : ∀ j, l[j]? = ops[k + 1 + j]? := fun j => by have := hl (j + 1); simpa [Nat.add_assoc, Nat.add_comm 1 j] using this
   rcases hB.1 with h1 | ⟨⟨h1, h2⟩, h3⟩
   . refine ⟨fun h2 => (by rw [h1] at h2; cases h2), fun i hi => ?_⟩
     rw [h1] at hi
     have hik : i = k := by simpa using hi
     subst hik
     have hw : wpOp P ops Q' i (wpList P ops Q' l) a w := by unfold wpOp; simp only [h0]; exact h
     exact wpOp_mono (fun a' w' h' => lA hsel hQ l (i + 1) _ a' w' hl' hB.2 h') hw
   . obtain ⟨v, hy, h4⟩ := aAb h0 h3 h hQ
     exact wpAny_take h0 hsel h2 h1 (fun c a w => hQ c a _ _ w) hy (lA hsel hQ l (k + 1) _ _ w hl' hB.2 h4)
theorem aAw {n i : Nat} {oi : Oper} {v : Value} {L : Array Bool -> Act -> Prop} (hi : ops[i]? = some oi) (hsel : ∀ (j : Nat) (o : Oper) cs b, ops[j]? = some o -> o.op ≠ .select cs b)
 (hs : Region.sinkB md ops n = true) (hc : aCl md ops n = true) (hn : n < ops.size) (hin : i < n) (hdone : ∀ done a, L done a -> ∀ j ∈ Region.ready md ops done, n <= j) (f : Nat) :
 ∀ (done : Array Bool) (a : Act), HeadInv md ops n done ->
  (∀ j oj, ops[j]? = some oj -> j ≠ i -> done.getD j true = false -> (∀ e ∈ oj.after, Region.binds md e = true -> e.on ≠ i) -> oi.apart ops oj = true) ->
  i ∈ Region.ready md ops done -> YieldsIn P ops C oi v a -> rM P md ops C n L f (done.setIfInBounds i true) (a.put oi.dst v) -> rM P md ops C n L (f + 1) done a := by
 have below : ∀ done : Array Bool, HeadInv md ops n done -> i ∈ Region.ready md ops done -> ∀ j ∈ Region.ready md ops done, j < n := fun done inv hr j hj => by
  rcases Nat.lt_or_ge j n with h | h
  . exact h
  . exact absurd hj (aCK hs hc hn inv _ i rfl hin (mem_ready.1 hr).1 j h)
 induction f with
 | zero =>
   intro done a inv _ hr hy H
   refine ⟨fun h => (by rw [h] at hr; cases hr), fun j hj => ⟨below done inv hr j hj, ?_⟩⟩
   by_cases e : j = i
   . subst e; exact hy.qOp hi H
   . have := hdone _ _ H j (ready_mono hj e)
     have := below done inv hr j hj
     omega
 | succ f ih =>
   intro done a inv hfree hr hy H
   have hun := (mem_ready.1 hr).1
   refine ⟨fun h => (by rw [h] at hr; cases hr), fun j hj => ⟨below done inv hr j hj, ?_⟩⟩
   by_cases e : j = i
   . subst e; exact hy.qOp hi H
   . obtain ⟨hjun, oj, hoj, hall⟩ := mem_ready.1 hj
     have hnot : ∀ e ∈ oj.after, Region.binds md e = true -> e.on ≠ i := fun e he hb heq => by
      have h1 := hall e he hb
      rw [heq, getD_both hun] at h1
      cases h1
     have hstep := qOp_put hoj (hfree j oj hoj e hjun hnot) (fun cs b => hsel i oi cs b hi) (fun cs b => hsel j oj cs b hoj) hy (H.2 j (ready_mono hj e)).2
     refine qOp_mono (fun a' h3 => ih (done.setIfInBounds j true) a' (inv.set hj (below done inv hr j hj)) ?_ (ready_mono hr (Ne.symm e)) h3.1 ?_) hstep
     . intro k ok hk hki hku hno
       refine hfree k ok hk hki ?_ hno
       by_cases hjk : j = k
       . subst hjk; exact hjun
       . rwa [getD_set_ne true hjk] at hku
     . rw [Array.setIfInBounds_comm _ _ e]; exact h3.2
theorem aEC {n g : Nat} {T : Act -> Prop} (hsel : Region.noSelect ops = true) (hs : Region.sinkB md ops n = true) (hc : aCl md ops n = true) (hn : n < ops.size) (l : List Oper) :
 ∀ (k : Nat) (done : Array Bool) (a : Act), (∀ j, j < l.length -> l[j]? = ops[k + j]?) -> k + l.length = n -> HeadInv md ops n done ->
  sE md ops g l.length k done = true -> wpQuiet P ops C T l a -> rM P md ops C n (fun done' a' => ((Region.ready md ops done').all (fun j => decide (n <= j)) = true /\ aEJ md ops g n done' = true) /\ T a') l.length done a := by
 induction l with
 | nil =>
   intro k done a _ hk _ hB h
   obtain rfl : k = n := by simpa using hk
   exact ⟨by simpa [sE] using hB, h⟩
 | cons o l ih =>
   intro k done a hl hk inv hB h
   have h0 : ops[k]? = some o := by simpa using (hl 0 (by simp)).symm
   simp only [List.length_cons, sE, Bool.and_eq_true] at hB
   obtain ⟨⟨hr, hf⟩, hB'⟩ := hB
   have hkl : k + (l.length + 1) = n := by simpa using hk
   have hr' : k ∈ Region.ready md ops done := by simpa using hr
   have hq : qOp P ops C k (wpQuiet P ops C T l) a := by unfold qOp; simp only [h0]; exact h
   obtain ⟨v, hy, hK⟩ := yieldsIn_of_qOp h0 hq
   refine aAw h0 (Region.noSelect_spec hsel) hs hc hn (by omega) (fun done' a' hL j hj => by simpa using List.all_eq_true.1 hL.1.1 j hj) l.length done a inv (Region.free_spec h0 hf) hr' hy ?_
   exact ih (k + 1) _ _ (fun j hj => by have := hl (j + 1) (by simpa using hj); simpa [Nat.add_assoc, Nat.add_comm 1 j] using this) (by omega) (inv.set hr' (by omega)) hB' hK
theorem uM {id : Nat} {Q : Exit -> Act -> World -> Prop} {a : Act} {w : World} {l : List Oper} (n : Nat) (hm : P.follows .mixedOrders = true) (hB : yC .any l.toArray n = true)
 (hQ : ∀ c a d v w, Q (.panic c) (Act.put a d v) w -> Q (.panic c) a w)
 (hC : C { w with drawn := w.drawn + 1 }) (h : wpQuiet P l.toArray C (fun a' => ∀ w', C w' -> wpList P l.toArray Q (l.drop n) a' w') (l.take n) a) : (Code.region id l.toArray true).wp P Q a w := by
 simp only [yC, Bool.and_eq_true, decide_eq_true_eq] at hB
 obtain ⟨⟨⟨⟨hsel, hn⟩, hs⟩, hc⟩, hlex⟩ := hB
 have hn' : n < l.length := by simpa using hn
 have htl : (l.take n).length = n := by simp; omega
 have hdl : (l.drop n).length = l.toArray.size - n := by simp
 have inv0 : HeadInv .any l.toArray n (Array.replicate l.toArray.size false) :=
  ⟨by simp, fun j oj _ hl => (by rw [getD_replicate_false] at hl; cases hl), fun t _ ht => getD_in (by simpa using ht) (getD_replicate_false _ _)⟩
 have H := aEC (C := C) (md := .any) (g := l.toArray.size - n) hsel hs hc hn (l.take n) 0 _ a (fun j hj => by rw [htl] at hj; simp [hj]) (by simpa using htl) inv0 (by rw [htl]; exact hlex) h
 have key := rF (Q' := Q) (g := l.toArray.size - n) (fun done a' w' hw' hL => by
  have := lA (md := .any) (Q' := Q) hsel hQ (l.drop n) n done a' w' (fun j => by simp [List.getElem?_drop]) (by rw [hdl]; exact hL.1.2) (hL.2 w' hw')
  rwa [hdl] at this) _ _ _ _ hC H
 rw [htl, show n + (l.toArray.size - n) = l.toArray.size by omega] at key
 exact wp_region_any hm key
end
theorem jE {P : Program} {id : Nat} {Q : Exit -> Act -> World -> Prop} {a : Act} {w : World} {l : List Oper} (n : Nat) (hm : P.follows .mixedOrders = true) (hB : yC .any l.toArray n = true)
 (hQ : ∀ c a d v w, Q (.panic c) (Act.put a d v) w -> Q (.panic c) a w)
 (h : wpQuiet P l.toArray (fun w' => ∃ p : Regrown, w' = grow (redrawn w p.d) p.os) (fun a' => ∀ w', (∃ p : Regrown, w' = grow (redrawn w p.d) p.os) -> wpList P l.toArray Q (l.drop n) a' w') (l.take n) a) : (Code.region id l.toArray true).wp P Q a w :=
 uM (C := fun w' => ∃ p : Regrown, w' = grow (redrawn w p.d) p.os) n hm hB hQ ⟨⟨w.drawn + 1, #[]⟩, by rw [grow_empty]; rfl⟩ h
end Go.Proofs.YtpojmmgokgamgaaGreat.B
