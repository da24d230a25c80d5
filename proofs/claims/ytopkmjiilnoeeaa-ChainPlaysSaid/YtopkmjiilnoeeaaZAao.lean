/- Several texts in one: Layer 17's laws: acts that came in; what ChainPlays's loop holds. Layer 17's laws: a row of ints behind another one; keys in boxes; chains with two keys' boxes. -/
import Derived.Test.YtopkmjiilnoeeaaZAan
namespace Go.Proofs.Ytopkmjiilnoeeaa.B
set_option linter.unusedVariables false
set_option linter.unusedSimpArgs false
set_option maxRecDepth 100000
open Go.ChangeShapes Go.WideShapes Go.RowKit Go.Sort
def ajz : Aj := ⟨0, 0, (0, 0)⟩
theorem iAj : (Try.prog.info? 31).map (·.size) = some 4 := by kernel_rfl
theorem ajl_len (a : Aj) : (ajl a).length = 4 := rfl
theorem ajl_one (a : Aj) : ∀ x ∈ ajl a, x.oneCell' = true := fun x hx => by
 unfold ajl at hx
 simp only [List.mem_cons, List.not_mem_nil, or_false] at hx
 rcases hx with rfl | rfl | rfl | rfl <;> rfl
def RowAj (w : World) (y : Option Addr) (len cap : Nat) (zs : Nat → Aj) : Prop := len = 0 ∨ ∃ z off, y = some ⟨z, off, none⟩ ∧ len ≤ cap ∧ cap ≤ maxLen ∧ z < w.heap.size ∧ ∀ i, i < len → (zs i).ok ∧ ∀ j v, (ajl (zs i))[j]? = some v → w.cell? ⟨z, off + i * 4 + j, none⟩ = some v
def InAj (w : World) (g o : Nat) (a : Aj) : Prop := ∃ cur t fr, w.heap[g]? = some (.cells cur t fr) ∧ PartAt cur o (ajl a)
theorem inAj_of {w : World} {g o : Nat} {a : Aj} (h : ∀ j v, (ajl a)[j]? = some v → w.cell? ⟨g, o + j, none⟩ = some v) : InAj w g o a := by
 have h0 := h 0 _ rfl
 have key : ∃ cur t fr, w.heap[g]? = some (.cells cur t fr) := by
  unfold World.cell? at h0
  cases hh : w.heap[g]? with
  | none => simp [hh] at h0
  | some ob =>
    cases ob with
    | cells cur t fr => exact ⟨cur, t, fr, rfl⟩
    | _ => simp [hh] at h0
 obtain ⟨cur, t, fr, hc⟩ := key
 refine ⟨cur, t, fr, hc, fun j v hv => ?_⟩
 have := h j v hv
 rw [cell_of_row w g (o + j) cur t fr hc] at this
 exact this
theorem InAj.below {w0 w : World} {g o : Nat} {a : Aj} (h : InAj w0 g o a) (hb : Below w0.heap.size w0 w) : InAj w g o a := by
 obtain ⟨cur, t, fr, h1, h2⟩ := h
 exact ⟨cur, t, fr, blk_below hb h1 (lt_of_block h1), h2⟩
section
variable {ops : Array Oper} {rest : List Oper} {o : Oper} {a : Act} {w : World} {Q : Exit → Act → World → Prop}
theorem ldAj (hgd : o.guard = none) (x : Operand) (ho : o.op = .load 31 x) {g off : Nat} (hx : a.eval x = .pointer (some ⟨g, off, none⟩)) {m : Aj} (hg : InAj w g off m)
 (h : wpList Try.prog ops Q rest (a.put o.dst (.agg (ajl m).toArray)) w) : wpList Try.prog ops Q (o :: rest) a w := by
 obtain ⟨cur, t, fr, h1, h2⟩ := hg
 exact wpList_load_part hgd _ x ho g off hx _ (ajl m) h1 Try.underlying31 rfl iAj h2 h
theorem stAj (hgd : o.guard = none) (x y : Operand) (ho : o.op = .store 31 x y) {g : Nat} (hx : a.eval x = .pointer (some ⟨g, 0, none⟩)) {m m0 : Aj} (hy : a.eval y = .agg (ajl m).toArray) (hg : w.heap[g]? = some (oAj m0))
 (h : ∀ w', w'.heap[g]? = some (oAj m) → Off (· = g) w w' → wpList Try.prog ops Q rest (a.put o.dst undef) w') : wpList Try.prog ops Q (o :: rest) a w := by
 have hR : (w.setRow g (ajl m).toArray).heap[g]? = some (oAj m) := row_set _ hg
 refine wpList_store_part hgd _ x y ho g 0 hx (ajl m) hy hg iAj (show 0 + 4 ≤ 4 from Nat.le_refl 4) (ajl_one _) ?_
 rw [spliced_all (ajl m0).toArray (ajl m) rfl]
 exact h _ hR ⟨rfl, rfl, rfl, by simp, fun k _ hs => setRow_other w g k _ hs⟩
end
theorem zeros4 : (#[.int .i64 0, .int .i64 0, .int .i64 0, .int .i64 0] : Array Value) = (ajl ajz).toArray := rfl
theorem ajC {w : World} {b : Nat} {a : Aj} (h : w.heap[b]? = some (oAj a)) : w.cell? ⟨b, 0, none⟩ = some (.int .i64 a.K) ∧ w.cell? ⟨b, 1, none⟩ = some (.int .i64 a.I) ∧ w.cell? ⟨b, 2, none⟩ = some (.int .i64 a.k.1) ∧ w.cell? ⟨b, 3, none⟩ = some (.int .i64 a.k.2) ∧ b < w.heap.size := by
 refine ⟨?_, ?_, ?_, ?_, lt_of_block h⟩ <;> (rw [blk_cell h]; rfl)
theorem RdI.cellk {w : World} {y : Option Addr} {n c : Nat} {l : List Int} (h : RdI w (.slice y n c) l) {k : Nat} {q : Int} (hk : l[k]? = some q) : ∃ g off, y = some ⟨g, off, none⟩ ∧ g < w.heap.size ∧ w.cell? ⟨g, off + k, none⟩ = some (.int .i64 q) := by
 obtain ⟨y2, c2, e, _, _, h⟩ := h
 cases e
 rcases h with h | ⟨g, off, h1, h2, h3⟩
 · rw [h] at hk; cases hk
 · exact ⟨g, off, h1, h2, h3 k q hk⟩
structure PJ (R : ChainR Kp) (w0 w : World) (p : Nat) (S : Nat → Prop) (n : Nat) (L : List (Kp × Int)) (v : Value) (M : List (Kp × Int)) (ba : Nat) (x : Aj) : Prop where
 K : CS R w0 w p S n L
 M : TrAt w w0.heap.size v M
 Ms : ∀ g, v.ownBlock = some g → ¬ S g ∧ g ≠ ba
 A : w.heap[ba]? = some (oAj x)
 As : ¬ S ba
 Al : w0.heap.size ≤ ba
structure PK (R : ChainR Kp) (w0 w : World) (p : Nat) (S : Nat → Prop) (n : Nat) (L : List (Kp × Int)) (v : Value) (M : List (Kp × Int)) : Prop where
 K : CS R w0 w p S n L
 M : TrAt w w0.heap.size v M
 Ms : ∀ g, v.ownBlock = some g → ¬ S g
section
variable {R : ChainR Kp} {w0 w w' : World} {p p2 : Nat} {S S2 : Nat → Prop} {n : Nat} {L L2 M M2 : List (Kp × Int)} {v v2 : Value} {ba : Nat} {x : Aj}
theorem PJ.pk (A : PJ R w0 w p S n L v M ba x) : PK R w0 w p S n L v M := ⟨A.K, A.M, fun g hg => (A.Ms g hg).1⟩
theorem PK.below (A : PK R w0 w p S n L v M) (hb : Below w.heap.size w w') : PK R w0 w' p S n L v M := ⟨A.K.below hb, A.M.below hb, A.Ms⟩
theorem PJ.below (A : PJ R w0 w p S n L v M ba x) (hb : Below w.heap.size w w') : PJ R w0 w' p S n L v M ba x := ⟨A.K.below hb, A.M.below hb, A.Ms, blk_below hb A.A (lt_of_block A.A), A.As, A.Al⟩
theorem PK.act (A : PK R w0 w p S n L v M) (hb : Below w.heap.size w w') (hx : w'.heap[w.heap.size]? = some (oAj x)) : PJ R w0 w' p S n L v M w.heap.size x :=
 ⟨A.K.below hb, A.M.below hb, fun g hg => ⟨A.Ms g hg, fun e => by have := (A.M.block hg).2; omega⟩, hx, fun h => by have := R.lt A.K.P _ h; omega, A.K.lo.size⟩
theorem far_of {S S' : Nat → Prop} {m : Nat} (h : ∀ k, S' k → S k ∨ m ≤ k) {g : Nat} (hg : g < m) (hn : ¬ S g) : ¬ S' g := fun hs => by
 rcases h g hs with h | h
 · exact hn h
 · omega
theorem PJ.leftOf (A : PJ R w0 w p S n L v M ba x) {S' : Nat → Prop} (h1 : R.At w' p S' n L2) (h2 : ∀ k, S' k → S k ∨ w.heap.size ≤ k) (h3 : Off S w w') : PJ R w0 w' p S' n L2 v M ba x := by
 refine ⟨⟨h1, fun k hk => ?_, Off.toBelow A.K.lo h3 (fun j hj e => by have := A.K.own j e; omega) (Nat.le_refl _)⟩, A.M.off h3 (fun g hg => (A.Ms g hg).1), fun g hg => ⟨far_of h2 (A.M.block hg).2 (A.Ms g hg).1, (A.Ms g hg).2⟩, h3.at A.A A.As, far_of h2 (lt_of_block A.A) A.As, A.Al⟩
 rcases h2 k hk with h | h
 · exact A.K.own k h
 · exact Nat.le_trans A.K.lo.size h
theorem PJ.left (A : PJ R w0 w p S n L v M ba x) (H : CLeft R w p S n L2 w') : ∃ S' : Nat → Prop, PJ R w0 w' p S' n L2 v M ba x ∧ (∀ k, S' k → S k ∨ w.heap.size ≤ k) ∧ Off S w w' := by
 obtain ⟨S', h1, h2, h3⟩ := H
 exact ⟨S', A.leftOf h1 h2 h3, h2, h3⟩
theorem PK.left (A : PK R w0 w p S n L v M) (H : CLeft R w p S n L2 w') : ∃ S' : Nat → Prop, PK R w0 w' p S' n L2 v M := by
 obtain ⟨S', h1, h2, h3⟩ := A.K.left H
 exact ⟨S', h1, A.M.off h3 A.Ms, fun g hg => far_of h2 (A.M.block hg).2 (A.Ms g hg)⟩
theorem PJ.doc (A : PJ R w0 w p S n L v M ba x) (hb : Below w.heap.size w w') (hM : TrAt w' w0.heap.size v2 M2) (hv : v2 = v ∨ ∀ g, v2.ownBlock = some g → w.heap.size ≤ g) : PJ R w0 w' p S n L v2 M2 ba x := by
 refine ⟨A.K.below hb, hM, fun g hg => ?_, blk_below hb A.A (lt_of_block A.A), A.As, A.Al⟩
 rcases hv with rfl | hv
 · exact A.Ms g hg
 · have h1 := hv g hg
   exact ⟨fun h => by have := R.lt A.K.P _ h; omega, fun e => by have := lt_of_block A.A; omega⟩
theorem PJ.other (A : PJ R w0 w p S n L v M ba x) (h : R.At w p2 S2 n L2) (own : ∀ k, S2 k → w0.heap.size ≤ k) (far : ∀ k, S2 k → v.ownBlock ≠ some k ∧ k ≠ ba) : PJ R w0 w p2 S2 n L2 v M ba x :=
 ⟨⟨h, own, A.K.lo⟩, A.M, fun g hg => ⟨fun hs => (far g hs).1 hg, (A.Ms g hg).2⟩, A.A, fun hs => (far ba hs).2 rfl, A.Al⟩
theorem PJ.stay (A : PJ R w0 w p S n L v M ba x) (C : PJ R w0 w' p2 S2 n L2 v M ba x) {T : Nat → Prop} (ho : Off T w w') (hT : ∀ k, S k → ¬ T k) : PJ R w0 w' p S n L v M ba x :=
 ⟨⟨R.off A.K.P ho hT, A.K.own, C.K.lo⟩, C.M, A.Ms, C.A, A.As, A.Al⟩
end
theorem run_appI {W : World} {B : Nat} {v : Value} {L M : List Int} {y : Option Addr} {n c : Nat} (h : IsAt W B v L) (hn : M.length = n) (hR : RdI W (.slice y n c) M) (hk : L.length + M.length < 5000) (hB : B ≤ W.heap.size) (ty : TypeId) :
 ∃ v' w', (Builtin.append_ #[38, 38] ty #[v, .slice y n c]).run Try.prog W = .ok v' w' ∧ IsAt w' B v' (L ++ M) ∧ Off (fun b => v.ownBlock = some b) W w' := by
 obtain ⟨i0, hi, hz0, hz1, hz2⟩ := info_parts infoI
 obtain ⟨y', c', e, _, _, hr⟩ := hR
 cases e
 cases y with
 | none =>
   have hM : M = [] := by
    rcases hr with h | ⟨g, off, e, _⟩
    · exact h
    · cases e
   subst hM
   refine ⟨v, W, ?_, by rw [List.append_nil]; exact h, Off.refl _ _⟩
   obtain ⟨hl, ho⟩ := h
   rcases ho with ⟨rfl, h2⟩ | ⟨g, cap, cur, rfl, hB, hg, hkc, hcm, hcs, htk⟩
   · simp [Builtin.append_, run_underlying (Try.underlying38), sizeOf, typeInfo, hi, Builtin.lenOf, Builtin.firstCells, loadCells, loadCellsFrom, storeCells]
   · simp [Builtin.append_, run_underlying (Try.underlying38), sizeOf, typeInfo, hi, Builtin.lenOf, Builtin.firstCells, loadCells, loadCellsFrom, storeCells, hkc]
 | some ad =>
   obtain ⟨v', w', h1, h2, h3, _⟩ := run_append_own (P := Try.prog) (w := W) B 38 ty 3 i0 _ 1 8 Try.underlying38 hi hz0 hz1 hz2 rfl (by decide) v L.length (ivs L) h ad M.length c (ivs M) (by unfold ivs; simp) (fun j u hu => by
    have hj : j < M.length := by have := (List.getElem?_eq_some_iff.1 hu).1; unfold ivs at this; simpa using this
    rcases hr with h | ⟨g, off, e, _, hc⟩
    · rw [h] at hj; cases hj
    · cases e
      unfold ivs at hu
      rw [List.getElem?_map, List.getElem?_eq_getElem hj] at hu
      simp only [Option.map_some, Option.some.injEq] at hu
      rw [Addr.add_lit, ← hu]
      exact hc j _ (List.getElem?_eq_getElem hj)) (fun u hu => by
    unfold ivs at hu
    obtain ⟨q, _, rfl⟩ := List.mem_map.1 hu
    rfl) (by unfold maxLen; omega) (by omega) hB
   refine ⟨v', w', h1, ?_, Off.ofGrown h3 fun k e => e⟩
   unfold IsAt ivs
   rw [List.map_append, List.length_append]
   exact h2
section
variable {ops : Array Oper} {rest : List Oper} {o : Oper} {a : Act} {w : World} {Q : Exit → Act → World → Prop}
theorem appIg (hw : Region.wanted o (yielded ops a.tmps) = true) (s x : Operand) (ho : o.op = .call { callee := .builtin .append, args := #[s, x], argTypes := #[38, 38] })
 {B : Nat} {v : Value} {L M : List Int} {y : Option Addr} {n c : Nat} (hs : a.eval s = v) (hO : IsAt w B v L) (hx : a.eval x = .slice y n c) (hn : M.length = n) (hR : RdI w (.slice y n c) M) (hk : L.length + M.length < 5000) (hB : B ≤ w.heap.size)
 (h : ∀ v' w', IsAt w' B v' (L ++ M) → Off (fun b => v.ownBlock = some b) w w' → wpList Try.prog ops Q rest (a.put o.dst v') w') : wpList Try.prog ops Q (o :: rest) a w := by
 refine wpList_step fun K hK => ?_
 rw [if_pos hw]
 obtain ⟨v', w', h1, h2, h3⟩ := run_appI hO hn hR hk hB o.type
 unfold Oper.wp
 simp only [execOp, ho, resolve, invoke, builtin, Sem.run_bind, Sem.run_pure, Result.andThen_ok, List.map_toArray, List.map_cons, List.map_nil, hs, hx, h1]
 exact hK _ _ (h v' w' h2 h3)
end
theorem emptyI (W : World) (B : Nat) (h : B ≤ W.heap.size) : IsAt (W.alloc (.cells #[] tI (0, 0))) B (.slice (some ⟨W.heap.size, 0, none⟩) 0 0) [] :=
 World.ownsRow_made W #[] 0 h (by unfold maxLen; omega) rfl
theorem eqKeys (k j : Kp) (w : World) : (binOp .eql 27 (.agg #[.int .i64 k.1, .int .i64 k.2]) (.agg #[.int .i64 j.1, .int .i64 j.2])).run Try.prog w = .ok (.bool (decide (k = j))) w := runKp k j w
theorem eqKeysG (x y : Operand) (k j : Kp) (w : World) : (eqGuard .eql 27 x y (.agg #[.int .i64 k.1, .int .i64 k.2]) (.agg #[.int .i64 j.1, .int .i64 j.2])).run Try.prog w = .ok () w := guardKp x y k j w
def chTk (L : List (Kp × Int)) (a b : Kp) (l : List Int) : List (Kp × Int) := chTake L a ++ l.map fun q => (b, q)
theorem chTk_step {n : Nat} {L : List (Kp × Int)} (ok : ChOk n L) (a b : Kp) {i : Nat} {q : Int} (hq : (chAll L a)[i]? = some q) : chCan n (chTk L a b ((chAll L a).take i)) q = true ∧ chPush n (chTk L a b ((chAll L a).take i)) b q = chTk L a b ((chAll L a).take (i + 1)) := by
 have hm := (chAll_mem L a q).1 (List.mem_of_getElem? hq)
 have hr := ok.rg _ hm
 have hno : chHas (chTk L a b ((chAll L a).take i)) q = false := by
  cases hh : chHas (chTk L a b ((chAll L a).take i)) q with
  | false => rfl
  | true =>
    obtain ⟨x, hx, e⟩ := (chHas_iff _ _).1 hh
    unfold chTk at hx
    rcases List.mem_append.1 hx with hx | hx
    · obtain ⟨h1, h2⟩ := List.mem_filter.1 hx
      have h3 : x.1 ≠ a := by simpa using h2
      exact absurd (by rw [mem_two ok h1 hm e]) h3
    · obtain ⟨r, hr2, rfl⟩ := List.mem_map.1 hx
      have e : r = q := e
      subst e
      obtain ⟨j, hj⟩ := List.mem_iff_getElem?.1 hr2
      rw [List.getElem?_take] at hj
      split at hj
      · rename_i hji
        have nd := chAll_nd ok a
        have h1 := List.getElem?_eq_some_iff.1 hj
        have h2 := List.getElem?_eq_some_iff.1 hq
        have := (List.getElem_inj (i := j) (j := i) (h₀ := h1.1) (h₁ := h2.1) nd).1 (h1.2.trans h2.2.symm)
        omega
      · cases hj
 have hc : chCan n (chTk L a b ((chAll L a).take i)) q = true := (chCan_iff _ _ _).2 ⟨hr, hno⟩
 refine ⟨hc, ?_⟩
 rw [chPush_yes hc, List.take_add_one, hq]
 unfold chTk
 rw [List.map_append, ← List.append_assoc]
 rfl
theorem chTk_all {L : List (Kp × Int)} {a b : Kp} (h : ¬ a = b) (l : List Int) : chAll (chTk L a b l) b = chAll L b ++ l := by
 unfold chTk
 rw [chAll_append, chAll_other L (fun e => h e.symm)]
 congr 1
 induction l with
 | nil => rfl
 | cons q l ih => rw [List.map_cons, chAll_cons, if_pos rfl, ih]; rfl
theorem chTk_len (L : List (Kp × Int)) (a b : Kp) : (chTk L a b (chAll L a)).length = L.length := by
 unfold chTk
 rw [List.length_append, List.length_map]
 exact chTake_len L a
theorem chTk_nil (L : List (Kp × Int)) (a b : Kp) : chTk L a b [] = chTake L a := by unfold chTk; simp
structure TK (R : ChainR Kp) (w0 w : World) (p : Nat) (S : Nat → Prop) (n : Nat) (L : List (Kp × Int)) (b6 b7 : Nat) (ka kb : Kp) : Prop where
 K : CS R w0 w p S n L
 A : KeyAt w b6 ka
 As : ¬ S b6
 B : KeyAt w b7 kb
 Bs : ¬ S b7
def Ro (w : World) (S : Nat → Prop) (v : Value) (l : List Int) : Prop := RdI w v l ∧ ∀ g, v.ownBlock = some g → g < w.heap.size ∧ ¬ S g
section
variable {R : ChainR Kp} {w0 w w' : World} {p : Nat} {S S' : Nat → Prop} {n : Nat} {L L2 : List (Kp × Int)} {b6 b7 : Nat} {ka kb : Kp} {v : Value} {l : List Int}
theorem TK.below (A : TK R w0 w p S n L b6 b7 ka kb) (hb : Below w.heap.size w w') : TK R w0 w' p S n L b6 b7 ka kb := ⟨A.K.below hb, A.A.below hb, A.As, A.B.below hb, A.Bs⟩
theorem TK.leftOf (A : TK R w0 w p S n L b6 b7 ka kb) (h1 : R.At w' p S' n L2) (h2 : ∀ k, S' k → S k ∨ w.heap.size ≤ k) (h3 : Off S w w') : TK R w0 w' p S' n L2 b6 b7 ka kb := by
 refine ⟨⟨h1, fun k hk => ?_, Off.toBelow A.K.lo h3 (fun j hj e => by have := A.K.own j e; omega) (Nat.le_refl _)⟩, A.A.off h3 A.As, far_of h2 (lt_of_block A.A) A.As, A.B.off h3 A.Bs, far_of h2 (lt_of_block A.B) A.Bs⟩
 rcases h2 k hk with h | h
 · exact A.K.own k h
 · exact Nat.le_trans A.K.lo.size h
theorem Ro.below (h : Ro w S v l) (hb : Below w.heap.size w w') : Ro w' S v l := ⟨h.1.keep hb, fun g hg => ⟨Nat.lt_of_lt_of_le (h.2 g hg).1 hb.size, (h.2 g hg).2⟩⟩
theorem Ro.leftOf (h : Ro w S v l) (h2 : ∀ k, S' k → S k ∨ w.heap.size ≤ k) (h3 : Off S w w') : Ro w' S' v l := ⟨h.1.off h3 (fun g hg => (h.2 g hg).2), fun g hg => ⟨Nat.lt_of_lt_of_le (h.2 g hg).1 h3.size, far_of h2 (h.2 g hg).1 (h.2 g hg).2⟩⟩
theorem TK.c (A : TK R w0 w p S n L b6 b7 ka kb) : b6 < w.heap.size ∧ w.cell? ⟨b6, 0, none⟩ = some (.int .i64 ka.1) ∧ w.cell? ⟨b6, 1, none⟩ = some (.int .i64 ka.2) ∧ b7 < w.heap.size ∧ w.cell? ⟨b7, 0, none⟩ = some (.int .i64 kb.1) ∧ w.cell? ⟨b7, 1, none⟩ = some (.int .i64 kb.2) :=
 ⟨A.A.c.1, A.A.c.2.1, A.A.c.2.2, A.B.c.1, A.B.c.2.1, A.B.c.2.2⟩
end
end Go.Proofs.Ytopkmjiilnoeeaa.B
