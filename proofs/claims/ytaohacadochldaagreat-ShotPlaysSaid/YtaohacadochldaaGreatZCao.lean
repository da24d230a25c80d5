/- A part of the proof of a law of layer 12: ao. -/
import Derived.Test.YtaohacadochldaaGreatZCam
import Derived.Deep.RegionLaw
import Derived.Maps.AppendAt
set_option linter.unusedVariables false
set_option linter.unusedSimpArgs false
set_option maxHeartbeats 12800000
set_option maxRecDepth 100000
namespace Go.Proofs.YtaohacadochldaaGreat.B
open Go.Proofs.Tryz
open Go.ChangeShapes Go.WideShapes Go.RowKit Go.Sort
def rmO : Obj := .cells (rm 0 (fun _ => 0)).toArray tRm (0, 0)
theorem aHP : Obj.cells #[.pointer none, .pointer none, .pointer none, .pointer none, .pointer none, .pointer none, .pointer none, .pointer none] tRm (0, 0) = rmO := rfl
theorem hI.push {w w' : World} {g k r : Nat} {q : Nat -> Nat} {t : Nat -> Tm} (h : hI w g k q t) (hb : Below w.heap.size w w') (hk : k < 8) (a : jN w' r tC (t k)) (o : (t k).ok) (hr : w.heap.size <= r) :
 hI (w'.setCell ⟨g, k, none⟩ (.pointer (some ⟨r, 0, none⟩))) g (k + 1) (fun i => if i = k then r else q i) t := by
 have h' := h.below hb
 have hrg : r ≠ g := by have := h.lt; omega
 refine ⟨?_, ?_, ?_, ?_, by omega⟩
 . rw [aR h'.room, gL, show Value.pointer (some ⟨r, 0, none⟩) = kC r from rfl, aMs k q r hk]
 . intro i hi
   by_cases e : i = k
   . subst e; rw [if_pos rfl]; exact a.other _ _ _ hrg
   . rw [if_neg e]; exact (h'.tms i (by omega)).other _ _ _ (h'.gne (by omega))
 . intro i hi
   by_cases e : i = k
   . subst e; exact o
   . exact h.ok i (by omega)
 . intro i j hi hj e
   by_cases ei : i = k <;> by_cases ej : j = k
   . rw [ei, ej]
   . rw [if_pos ei, if_neg ej] at e; have := h.ltq (show j < k by omega); omega
   . rw [if_neg ei, if_pos ej] at e; have := h.ltq (show i < k by omega); omega
   . rw [if_neg ei, if_neg ej] at e; exact h.one i j (by omega) (by omega) e
theorem aBb (w : World) (t : Nat -> Tm) : hI (w.alloc rmO) w.heap.size 0 (fun _ => 0) t :=
 ⟨aD w rmO, fun i hi => by omega, fun i hi => by omega, fun i j hi => by omega, by omega⟩
theorem aNi (i : Int) (w : World) : Calls prog 178 #[.int .i64 i] w fun e w' => e = .returned (.pointer (some ⟨w.heap.size, 0, none⟩)) /\ w' = w.alloc (.cells (wl tz).toArray tC (0, 0)) := by
 go_enter func178, ntmps178
 go_wp2_with fail
 refine (aPz w).mono ?_
 rintro e w1 ⟨rfl, rfl⟩
 exact aU
theorem xF {P : Prop} (h : P := by
 rw [aA (R.below hb1).room k]
 have : k < (rm k q').length := by rw [aAQ]; omega
 rw [List.getElem?_toArray]
 exact ⟨_, List.getElem?_eq_getElem this⟩
 ) : P := h
theorem wJ {P : Prop} (h : P := by
 intro i hi
 by_cases e : i = k
 . subst e; show w.heap.size <= (if i = i then wr.heap.size else q' i); rw [if_pos rfl]; exact hsz
 . show w.heap.size <= (if i = k then wr.heap.size else q' i); rw [if_neg e]; exact hq i (by omega)
 ) : P := h
theorem aIJ {n : Nat} (n8 : n <= 8) (w : World) :
 Calls prog 177 #[.int .i64 n, .func (.func 178) #[] #[]] w fun e w' => ∃ q' : Nat -> Nat, e = .returned (.slice (some ⟨w.heap.size, 0, none⟩) n n) /\ hI w' w.heap.size n q' (fun _ => tz) /\ Below w.heap.size w w' /\ ∀ i, i < n -> w.heap.size <= q' i := by
 have R0 := aBb w (fun _ => tz)
 have B0 := aE (aH w) rmO
 go_enter func177, ntmps177
 go_upto_region 2 with (fail)
 rw [aHP]
 generalize w.alloc rmO = W at *
 go_wp2_with fail
 go_loopw [8] (fun i wr => ∃ (k : Nat) (q' : Nat -> Nat), k <= n /\ i = .int .i64 k /\ hI wr w.heap.size k q' (fun _ => tz) /\ Below w.heap.size w wr /\ ∀ i, i < k -> w.heap.size <= q' i) (fun i wr => n - (intOf i).toNat)
 case atStart => exact ⟨0, _, by omega, rfl, R0, B0, fun i hi => by omega⟩
 case round =>
  clear R0 B0
  obtain ⟨k, q', hk, rfl, R, hB, hq⟩ := hrel
  by_cases hlt : k < n
  . skip
    go_wp2_with fail
    refine (aNi k wr).mono ?_
    rintro e w1 ⟨rfl, rfl⟩
    have hb1 := aE (aH wr) (.cells (wl tz).toArray tC (0, 0))
    have a1 : jN (wr.alloc (.cells (wl tz).toArray tC (0, 0))) wr.heap.size tC tz := aD wr _
    have R2 := R.push hb1 (by omega) a1 aD5 (Nat.le_refl _)
    have hB2 := (tr hB hb1).setCell (p := ⟨w.heap.size, k, none⟩) (Nat.le_refl _) (.pointer (some ⟨wr.heap.size, 0, none⟩))
    have hf : (wr.alloc (.cells (wl tz).toArray tC (0, 0))).frozen? ⟨w.heap.size, k, none⟩ = false := aK (R.below hb1).room k
    have hc : ∃ v, (wr.alloc (.cells (wl tz).toArray tC (0, 0))).cell? ⟨w.heap.size, k, none⟩ = some v := by
     exact xF
    obtain ⟨v, hc⟩ := hc
    have hsz : w.heap.size <= wr.heap.size := hB.size
    have hq2 : ∀ i, i < k + 1 -> w.heap.size <= (fun i => if i = k then wr.heap.size else q' i) i := by
     exact wJ
    have HR := Hd R2
    have HB := Hd hB2
    have HQ := Hd hq2
    clear R hB R2 hB2 hq hq2 a1 hb1 
    generalize wr.alloc (.cells (wl tz).toArray tC (0, 0)) = W1 at *
    generalize wr.heap.size = r at *
    go_wp2_with fail
    go_roundw
    case rel => exact ⟨k + 1, _, by omega, by go_num, HR.out, HB.out, HQ.out⟩
    case measure => simp [intOf]; omega
  . obtain rfl : k = n := by omega
    have HR := Hd R
    clear R
    have hal : prog.arrayLen 296 = 8 := by kernel_rfl
    have hk8 : (k : Int) <= 8 := by omega
    go_wp2_with fail
    go_ret
    exact ⟨q', rfl, HR.out, hB, hq⟩
theorem aFL {n : Nat} {w0 : World} {p g : Nat} {q : Nat -> Nat} {t : Nat -> Tm} (h : cK w0 p g n q t) (n8 : n <= 8) (w : World) (hb0 : Below w0.heap.size w0 w) :
 Calls prog 177 #[.int .i64 n, .func (.func 158) #[.pointer (some ⟨p, 0, none⟩)] #[]] w fun e w' => ∃ q' : Nat -> Nat, e = .returned (.slice (some ⟨w.heap.size, 0, none⟩) n n) /\ hI w' w.heap.size n q' t /\ Below w.heap.size w w' /\ ∀ i, i < n -> w.heap.size <= q' i := by
 have R0 := aBb w t
 have B0 := aE (aH w) rmO
 go_enter func177, ntmps177
 go_upto_region 2 with (fail)
 rw [aHP]
 generalize w.alloc rmO = W at *
 go_wp2_with fail
 go_loopw [8] (fun i wr => ∃ (k : Nat) (q' : Nat -> Nat), k <= n /\ i = .int .i64 k /\ hI wr w.heap.size k q' t /\ Below w.heap.size w wr /\ ∀ i, i < k -> w.heap.size <= q' i) (fun i wr => n - (intOf i).toNat)
 case atStart => exact ⟨0, _, by omega, rfl, R0, B0, fun i hi => by omega⟩
 case round =>
  clear R0 B0
  obtain ⟨k, q', hk, rfl, R, hB, hq⟩ := hrel
  by_cases hlt : k < n
  . have H := h.below (hb0.trans (hB.mono hb0.size))
    have ok := h.rm.ok k hlt
    go_wp2_with fail
    refine (aFM H k hlt).mono ?_
    rintro e w1 ⟨rfl, rfl⟩
    have hb1 := aE (aH wr) (.cells (wl (t k)).toArray tC (0, 0))
    have a1 : jN (wr.alloc (.cells (wl (t k)).toArray tC (0, 0))) wr.heap.size tC (t k) := aD wr _
    have R2 := R.push hb1 (by omega) a1 ok (Nat.le_refl _)
    have hB2 := (tr hB hb1).setCell (p := ⟨w.heap.size, k, none⟩) (Nat.le_refl _) (.pointer (some ⟨wr.heap.size, 0, none⟩))
    have hf : (wr.alloc (.cells (wl (t k)).toArray tC (0, 0))).frozen? ⟨w.heap.size, k, none⟩ = false := aK (R.below hb1).room k
    have hc : ∃ v, (wr.alloc (.cells (wl (t k)).toArray tC (0, 0))).cell? ⟨w.heap.size, k, none⟩ = some v := by
     exact xF
    obtain ⟨v, hc⟩ := hc
    have hsz : w.heap.size <= wr.heap.size := hB.size
    have hq2 : ∀ i, i < k + 1 -> w.heap.size <= (fun i => if i = k then wr.heap.size else q' i) i := by
     exact wJ
    have HR := Hd R2
    have HB := Hd hB2
    have HQ := Hd hq2
    clear R hB R2 hB2 hq hq2 a1 hb1 H
    generalize wr.alloc (.cells (wl (t k)).toArray tC (0, 0)) = W1 at *
    generalize wr.heap.size = r at *
    go_wp2_with fail
    go_roundw
    case rel => exact ⟨k + 1, _, by omega, by go_num, HR.out, HB.out, HQ.out⟩
    case measure => simp [intOf]; omega
  . obtain rfl : k = n := by omega
    have HR := Hd R
    clear R
    have hal : prog.arrayLen 296 = 8 := by kernel_rfl
    have hk8 : (k : Int) <= 8 := by omega
    go_wp2_with fail
    go_ret
    exact ⟨q', rfl, HR.out, hB, hq⟩
theorem aPZ (n : Nat) (n0 : 1 <= n) (n8 : n <= 8) (w : World) :
 Calls prog 98 #[.int .i64 n] w fun e w' => ∃ (p g : Nat) (q : Nat -> Nat), e = .returned (.tuple #[.pointer (some ⟨p, 0, none⟩), .int .i64 0]) /\ cK w' p g n q (fun _ => tz) /\ Below w.heap.size w w' /\ w.heap.size <= p /\ w.heap.size <= g /\ ∀ i, i < n -> w.heap.size <= q i := by
 go_enter func98, ntmps98
 go_wp2_with fail
 refine (aIJ n8 w).mono ?_
 rintro e w1 ⟨q, rfl, R, hB, hq⟩
 have B1 := aE hB (.cells #[.slice (some ⟨w.heap.size, 0, none⟩) n n] tBk (0, 0))
 have K : cK (w1.alloc (.cells #[.slice (some ⟨w.heap.size, 0, none⟩) n n] tBk (0, 0))) w1.heap.size w.heap.size n q (fun _ => tz) := ⟨aD w1 _, R.below (aE (aH w1) _)⟩
 have hs := hB.size
 go_wp2_with fail
 go_ret2
 exact ⟨_, _, q, rfl, K, B1, hs, Nat.le_refl _, hq⟩
theorem aJ3 {n p g : Nat} {q : Nat -> Nat} {t : Nat -> Tm} {w : World} (h : cK w p g n q t) :
 Calls prog 143 #[.pointer (some ⟨p, 0, none⟩)] w fun e w' => ∃ (p' g' : Nat) (q' : Nat -> Nat), e = .returned (.pointer (some ⟨p', 0, none⟩)) /\ cK w' p' g' n q' t /\ Below w.heap.size w w' /\ w.heap.size <= p' /\ w.heap.size <= g' /\ ∀ i, i < n -> w.heap.size <= q' i := by
 have hmf : ∀ (fn : Fn) (first cap : Array Value) (w : World), (Instr.makeFunc fn first cap).run prog w = .ok (.func fn first cap) w := fun _ _ _ _ => rfl
 have n8 := h.rm.n8
 go_enter func143, ntmps143
 go_wp2_with fail
 refine (aEF h).mono ?_
 rintro e w1 ⟨rfl, rfl⟩
 go_wp2_with fail
 refine (aFL h n8 w (aH w)).mono ?_
 rintro e w1 ⟨q', rfl, R, hB, hq⟩
 have B1 := aE hB (.cells #[.slice (some ⟨w.heap.size, 0, none⟩) n n] tBk (0, 0))
 have K : cK (w1.alloc (.cells #[.slice (some ⟨w.heap.size, 0, none⟩) n n] tBk (0, 0))) w1.heap.size w.heap.size n q' t := ⟨aD w1 _, R.below (aE (aH w1) _)⟩
 have hs := hB.size
 go_wp2_with fail
 go_ret
 exact ⟨_, _, q', rfl, K, B1, hs, Nat.le_refl _, hq⟩
theorem aHl {t : Wd} {n : Int} (hen : t.en = true) (hf : t.fa = 0) (h : t.tot <= t.si + n) : t.tick n = { t with si := t.tot, fa := 2 } := by unfold Wd.tick; rw [if_pos ⟨hen, hf⟩, if_pos h]
theorem aJR {t : Wd} {n : Int} (hen : t.en = true) (hf : t.fa = 0) (h : ¬ t.tot <= t.si + n) : t.tick n = { t with si := t.si + n } := by unfold Wd.tick; rw [if_pos ⟨hen, hf⟩, if_neg h]
theorem aI7 {t : Wd} {n : Int} (hen : t.en = true) (hf : t.fa = 0) (h : t.tot <= t.si + n) : t.ran n = t.tot - t.si := by unfold Wd.ran; rw [if_neg (by simp [hf]), if_pos hen, if_pos h]
theorem aMk {t : Wd} {n : Int} (hen : t.en = true) (hf : t.fa = 0) (h : ¬ t.tot <= t.si + n) : t.ran n = n := by unfold Wd.ran; rw [if_neg (by simp [hf]), if_pos hen, if_neg h]
theorem aCS (t : Wd) (p : Nat) (w : World) (hen : t.en = true) (hf : t.fa = 0) (s0 : 0 <= t.si) (s1 : t.si <= t.tot) (t1 : t.tot < 4294967296) (a : eC w p t) :
 Calls prog 165 #[.pointer (some ⟨p, 0, none⟩)] w fun e w' => e = .returned (.int .u64 (t.tot - t.si)) /\ Below w.heap.size w w' := by
 have x0 := a.c0
 have x1 := a.c1
 have x2 := a.c2
 have hr := aKB t w
 rw [decide_eq_true (show t.en = true /\ t.fa = 0 from ⟨hen, hf⟩)] at hr
 have hr := Hd hr
 clear hen hf
 go_enter func165, ntmps165
 go_wp2_with fail
 refine (hr.out).mono ?_
 rintro e w1 ⟨rfl, hb⟩
 have a1 := a.below hb
 clear hr x0 x1 x2 a
 have x4 := a1.c4
 have x5 := a1.c5
 go_wp2_with fail
 have hg := bC
 have hl := a1.lt
 exact nV
theorem aN2 (t : Wd) (n : Int) (p : Nat) (w : World) (h : t.ok) (a : eC w p t) (n0 : 0 <= n) (n1 : n < 18446744073709551616) :
 Calls prog 135 #[.pointer (some ⟨p, 0, none⟩), .int .u64 n] w fun e w' => e = .returned (.int .u64 (t.ran n)) /\ eC w' p (t.tick n) /\ aF (· = p) w w' := by
 have F := Hd (fun w a => aCR t p w a)
 have E := Hd (fun w a => aAz t p w a)
 by_cases hf : t.fa = 0
 . have qf : (t.fa != 0) = false := by simp [hf]
   obtain ⟨en, hen⟩ : ∃ b, t.en = b := ⟨_, rfl⟩
   rw [hen] at E
   cases en
   . have e1 : t.tick n = t := by unfold Wd.tick; rw [if_neg (by rw [hen]; simp)]
     have e2 : t.ran n = n := by unfold Wd.ran; rw [if_neg (by simp [hf]), if_neg (by rw [hen]; simp)]
     rw [e1, e2]
     go_enter func135, ntmps135
     go_wp2_with fail
     refine (F.out _ a).mono ?_
     rintro e w' ⟨rfl, rfl⟩
     go_wp2_with fail
     refine (E.out _ a).mono ?_
     exact nL
   . have hlt := h.run hen hf
     have s0 := h.s0
     have t1 := h.t1
     obtain ⟨R, hR⟩ : ∃ R, t.tick n = R := ⟨_, rfl⟩
     obtain ⟨V, hV⟩ : ∃ V, t.ran n = V := ⟨_, rfl⟩
     rw [hR, hV]
     have HR := Hd hR
     have HV := Hd hV
     have L := Hd (fun w a => aCS t p w hen hf s0 (by omega) t1 a)
     clear hR hV h
     by_cases hge : t.tot <= t.si + n
     . have hv : V = t.tot - t.si := by rw [<- HV.out, aI7 hen hf hge]
       have hr : R = { t with si := t.tot, fa := 2 } := by rw [<- HR.out, aHl hen hf hge]
       have hm : min n (t.tot - t.si) = t.tot - t.si := by omega
       have hs : t.si + (t.tot - t.si) = t.tot := by omega
       have L2 := Hd (fun w a => by have := aCS { t with si := t.tot } p w hen hf (by show 0 <= t.tot; omega) (Int.le_refl _) t1 a; rw [show t.tot - t.tot = 0 by omega] at this; exact this)
       rw [hv, hr]
       clear hv hr HR HV hen hf
       have hn : n = t.tot - t.si \/ ¬ n <= t.tot - t.si := by omega
       rcases hn with rfl | hn
       all_goals
        go_enter func135, ntmps135
        go_wp2_with fail
        refine (F.out _ a).mono ?_
        rintro e w' ⟨rfl, rfl⟩
        go_wp2_with fail
        refine (E.out _ a).mono ?_
        rintro e w' ⟨rfl, rfl⟩
        go_wp2_with fail
        refine (L.out _ a).mono ?_
        rintro e w1 ⟨rfl, hb⟩
        have A := a.below hb
        have ho := aF.ofBelow (S := (· = p)) hb
        have x5 := A.c5
        have f5 := A.free 5
        clear a hb L F E
        go_wp2_with fail
        have A1 := A.s5 t.tot
        have ho1 := ho.trans (aG w1 p 5 (.int .u64 t.tot))
        clear A ho x5 f5
        generalize w1.setCell ⟨p, 5, none⟩ (.int .u64 t.tot) = W1 at *
        refine (L2.out _ A1).mono ?_
        rintro e w2 ⟨rfl, hb⟩
        have A := A1.below hb
        have ho := ho1.trans (aF.ofBelow (S := (· = p)) hb)
        clear A1 hb L2 ho1
        have x2 := A.c2
        have f2 := A.free 2
        go_wp2_with fail
        go_ret
        exact ⟨rfl, A.s2 2, ho.trans (aG _ _ _ _)⟩
     . have hv : V = n := by rw [<- HV.out, aMk hen hf hge]
       have hr : R = { t with si := t.si + n } := by rw [<- HR.out, aJR hen hf hge]
       have hm : min n (t.tot - t.si) = n := by omega
       have L2 := Hd (fun w a => aCS { t with si := t.si + n } p w hen hf (by show 0 <= t.si + n; omega) (by show t.si + n <= t.tot; omega) t1 a)
       have hq : (t.tot - (t.si + n) == 0) = false := by simp; omega
       rw [hv, hr]
       clear hv hr HR HV hen hf
       go_enter func135, ntmps135
       go_wp2_with fail
       refine (F.out _ a).mono ?_
       rintro e w' ⟨rfl, rfl⟩
       go_wp2_with fail
       refine (E.out _ a).mono ?_
       rintro e w' ⟨rfl, rfl⟩
       go_wp2_with fail
       refine (L.out _ a).mono ?_
       rintro e w1 ⟨rfl, hb⟩
       have A := a.below hb
       have ho := aF.ofBelow (S := (· = p)) hb
       have x5 := A.c5
       have f5 := A.free 5
       clear a hb L F E
       go_wp2_with fail
       have A1 := A.s5 (t.si + n)
       have ho1 := ho.trans (aG w1 p 5 (.int .u64 (t.si + n)))
       clear A ho x5 f5
       generalize w1.setCell ⟨p, 5, none⟩ (.int .u64 (t.si + n)) = W1 at *
       refine (L2.out _ A1).mono ?_
       rintro e w2 ⟨rfl, hb⟩
       have A := A1.below hb
       have ho := ho1.trans (aF.ofBelow (S := (· = p)) hb)
       clear A1 hb L2 ho1
       have x2 := A.c2
       have f2 := A.free 2
       go_wp2_with fail
       go_ret
       exact ⟨rfl, A, ho⟩
 . have qf : (t.fa != 0) = true := by simp [hf]
   have e1 : t.tick n = t := by unfold Wd.tick; rw [if_neg (fun e => hf e.2)]
   have e2 : t.ran n = 0 := by unfold Wd.ran; rw [if_pos hf]
   rw [e1, e2]
   go_enter func135, ntmps135
   go_wp2_with fail
   refine (F.out _ a).mono ?_
   exact nL
theorem iD : (prog.info? 252).map (·.size) = some 7 := by kernel_rfl
theorem aLW (t : Wd) : ∀ x ∈ dl t, x.oneCell' = true := by
 intro x h
 simp only [dl, List.mem_cons, List.not_mem_nil, or_false] at h
 exact rF
theorem eC.row {old : Array Value} {w : World} {b : Nat} (h : w.heap[b]? = some (.cells old tD (0, 0))) (t : Wd) : eC (w.setRow b (dl t).toArray) b t := aY _ h
section
variable {ops : Array Oper} {rest : List Oper} {o : Oper} {a : Act} {w : World} {Q : Exit -> Act -> World -> Prop}
theorem aOS (hgd : o.guard = none) (x : Operand) (ho : o.op = .load 252 x) {b : Nat} (hx : a.eval x = .pointer (some ⟨b, 0, none⟩)) {t : Wd} (hg : eC w b t)
 (h : wpList prog ops Q rest (a.put o.dst (.agg (dl t).toArray)) w) : wpList prog ops Q (o :: rest) a w :=
 aN hgd _ x ho b 0 hx _ (dl t) hg underlying252 rfl iD (aL _) h
theorem aHj (hgd : o.guard = none) (x y : Operand) (ho : o.op = .store 252 x y) {b : Nat} (hx : a.eval x = .pointer (some ⟨b, 0, none⟩)) {t : Wd} (hy : a.eval y = .agg (dl t).toArray) {t' : Wd} (hg : eC w b t')
 (h : wpList prog ops Q rest (a.put o.dst undef) (w.setRow b (dl t).toArray)) : wpList prog ops Q (o :: rest) a w := by
 refine aJ hgd _ x y ho b 0 hx (dl t) hy hg iD (by simp [dl]) (aLW _) ?_
 rw [aW _ _ (by simp [dl])]
 exact h
end
theorem aLS (t : Wd) (p : Nat) (w : World) (a : eC w p t) :
 Calls prog 286 #[.pointer (some ⟨p, 0, none⟩)] w fun e w' => e = .returned (.tuple #[]) /\ eC w' p wz /\ aF (· = p) w w' := by
 go_enter func286, ntmps286
 go_wp2_with (refine aHj rfl (.tmp 6) (.tmp 5) rfl rfl (t := wz) rfl a ?_)
 go_end0
 exact ⟨rfl, eC.row a wz, qF _ _ _⟩
theorem aJ9 (t : Wd) (p : Nat) (w : World) (a : eC w p t) :
 Calls prog 144 #[.pointer (some ⟨p, 0, none⟩)] w fun e w' => e = .returned (.pointer (some ⟨w.heap.size, 0, none⟩)) /\ eC w' w.heap.size t /\ Below w.heap.size w w' := by
 have ha := a.lt
 have hb := aE (aH w) (.cells (dl wz).toArray tD (0, 0))
 have Y : eC (w.alloc (.cells (dl wz).toArray tD (0, 0))) w.heap.size wz := aD w _
 have Z := eC.row Y t
 have hB := aB hb (dl t).toArray (g := w.heap.size) (Nat.le_refl _)
 go_enter func144, ntmps144
 go_wp2_with (first | (refine aOS rfl (.tmp 7) rfl rfl a ?_) | (refine aHj rfl (.tmp 3) (.tmp 8) rfl rfl (t := t) rfl Y ?_))
 go_ret
 exact ⟨rfl, Z, hB⟩
theorem aC5 : dD 0 = 0 := rfl
theorem aHa : dD 4 = 0 := rfl
theorem aC6 : dD 8 = 0 := rfl
theorem aDz : dD 12 = 0 := rfl
theorem aHW (t : Rs) (v : Int) (p : Nat) (w : World) (h : t.ok) (a : eN w p tS t) (v0 : 0 <= v) (v1 : v < 4294967296) :
 Calls prog 293 #[.pointer (some ⟨p, 0, none⟩), .int .u32 0, .int .u32 v] w fun e w' => e = .returned (.int .i64 0) /\ eN w' p tS (t.clr v) /\ aF (· = p) w w' := by
 have HC := Hd (fun w a => by have := oG t 0 p w h a (by omega) (by omega); rw [aC5] at this; exact this)
 go_enter func293, ntmps293
 go_wp2_with fail
 refine (HC.out _ a).mono ?_
 rintro e w1 ⟨rfl, h1⟩
 have A := a.below h1
 have x0 := A.c0
 have f0 := A.free 0
 have Z := A.s0 (bits BinOp.andNot IntKind.u32 t.ca v)
 have hO := (aF.ofBelow (S := (· = p)) h1).trans (aG w1 p 0 (.int .u32 (bits BinOp.andNot IntKind.u32 t.ca v)))
 have Z2 := Z.below (jQ (aH _))
 have hO2 := hO.trans (uT _)
 clear a h1 HC
 go_wp2_with fail
 go_region
 all_goals
  go_wp2_with fail
  go_ret
  first | exact ⟨rfl, Z, hO⟩ | exact ⟨rfl, Z2, hO2⟩
theorem aHX (t : Rs) (v : Int) (p : Nat) (w : World) (h : t.ok) (a : eN w p tS t) (v0 : 0 <= v) (v1 : v < 4294967296) :
 Calls prog 293 #[.pointer (some ⟨p, 0, none⟩), .int .u32 8, .int .u32 v] w fun e w' => e = .returned (.int .i64 0) /\ eN w' p tS (t.ask v) /\ aF (· = p) w w' := by
 have HC := Hd (fun w a => by have := oG t 8 p w h a (by omega) (by omega); rw [aC6] at this; exact this)
 obtain ⟨q, hq⟩ : ∃ q, t.qs = q := ⟨_, rfl⟩
 obtain ⟨z, hz⟩ : ∃ z, (v == 45063) = z := ⟨_, rfl⟩
 have HK := Hd (show (⟨t.ca, t.ct, t.la, q || z⟩ : Rs) = t.ask v by unfold Rs.ask; rw [hq, hz])
 cases q
 . cases z
   all_goals
    go_enter func293, ntmps293
    go_wp2_with fail
    refine (HC.out _ a).mono ?_
    rintro e w1 ⟨rfl, h1⟩
    have A := a.below h1
    have x0 := A.c4
    rw [hq] at x0
    have f0 := A.free 4
    clear hq a HC
    go_wp2_with fail
    go_ret
    refine ⟨rfl, by rw [<- HK.out]; exact A.s4 _, (aF.ofBelow (S := (· = p)) h1).trans (aG w1 p 4 _)⟩
 . go_enter func293, ntmps293
   go_wp2_with fail
   refine (HC.out _ a).mono ?_
   rintro e w1 ⟨rfl, h1⟩
   have A := a.below h1
   have x0 := A.c4
   rw [hq] at x0
   have f0 := A.free 4
   clear hq a HC
   go_wp2_with fail
   go_ret
   refine ⟨rfl, by rw [<- HK.out]; exact A.s4 _, (aF.ofBelow (S := (· = p)) h1).trans (aG w1 p 4 _)⟩
theorem rE {P : Prop} (h : P := by
 go_enter func293, ntmps293
 go_wp2_with fail
 refine (HC.out _ a).mono ?_
 rintro e w1 ⟨rfl, h1⟩
 go_wp2_with fail
 go_ret
 exact ⟨rfl, h1⟩
 ) : P := h
theorem aBe (t : Rs) (o v : Int) (p : Nat) (w : World) (h : t.ok) (a : eN w p tS t) (ho : o = 4 \/ o = 12) :
 Calls prog 293 #[.pointer (some ⟨p, 0, none⟩), .int .u32 o, .int .u32 v] w fun e w' => e = .returned (.int .i64 12) /\ Below w.heap.size w w' := by
 rcases ho with rfl | rfl
 . have HC := Hd (fun w a => by have := oG t 4 p w h a (by omega) (by omega); rw [aHa] at this; exact this)
   exact rE
 . have HC := Hd (fun w a => by have := oG t 12 p w h a (by omega) (by omega); rw [aDz] at this; exact this)
   exact rE
theorem aHY (t : Rs) (o v : Int) (p : Nat) (w : World) (h : t.ok) (a : eN w p tS t) (o0 : 0 <= o) (o1 : o < 4294967296) (he : dD o ≠ 0) :
 Calls prog 293 #[.pointer (some ⟨p, 0, none⟩), .int .u32 o, .int .u32 v] w fun e w' => e = .returned (.int .i64 (dD o)) /\ Below w.heap.size w w' := by
 have HC := Hd (fun w a => oG t o p w h a o0 o1)
 obtain ⟨E, hE⟩ : ∃ E, dD o = E := ⟨_, rfl⟩
 rw [hE] at HC he ⊢
 have q1 : (E != 0) = true := by simpa using he
 clear hE he
 exact rE
theorem aJE (t : Rs) (o v : Int) (p : Nat) (w : World) (h : t.ok) (a : eN w p tS t) (o0 : 0 <= o) (o1 : o < 4294967296) (v0 : 0 <= v) (v1 : v < 4294967296) :
 Calls prog 293 #[.pointer (some ⟨p, 0, none⟩), .int .u32 o, .int .u32 v] w fun e w' => e = .returned (.int .i64 (kP o)) /\ eN w' p tS (t.sto o v) /\ aF (· = p) w w' := by
 by_cases he : dD o = 0
 . rcases lV o0 he with rfl | rfl | rfl | rfl
   . exact aHW t v p w h a v0 v1
   . refine (aBe t 4 v p w h a (by omega)).mono ?_
     exact nP
   . exact aHX t v p w h a v0 v1
   . refine (aBe t 12 v p w h a (by omega)).mono ?_
     exact nP
 . have e1 : kP o = dD o := by unfold kP; rw [if_pos he]
   have e2 : t.sto o v = t := by
    unfold Rs.sto
    rw [if_neg (fun e => he (by rw [e]; rfl)), if_neg (fun e => he (by rw [e]; rfl))]
   rw [e1, e2]
   refine (aHY t o v p w h a o0 o1 he).mono ?_
   exact nP
structure Pgs (w : World) (bm : Nat) (ks : List Int) (pv : Int -> Value) (L : Int -> List Su) : Prop where
 map : eA w ek lT bm (ks.map fun u => (u, pv u))
 rows : ∀ u, u ∈ ks -> w.ownsRow 0 269 3 (pv u) (L u).length ((L u).flatMap Su.cells)
 nos : ∀ u, u ∉ ks -> L u = []
 disj : ∀ u, u ∈ ks -> ∀ v, v ∈ ks -> u ≠ v -> ∀ k, (pv u).ownBlock = some k -> (pv v).ownBlock ≠ some k
theorem eZ.pgs {w : World} {p bm : Nat} {rv : Value} {R : List (Int × Int)} {ks : List Int} {pv : Int -> Value} {Lp : Int -> List Su} (h : eZ w p bm rv R ks pv Lp) : Pgs w bm ks pv Lp := ⟨h.map, h.rows, h.nos, h.disj⟩
section
variable {w w' : World} {bm : Nat} {ks : List Int} {pv : Int -> Value} {L : Int -> List Su}
theorem Pgs.lt (h : Pgs w bm ks pv L) {u : Int} (hu : u ∈ ks) {k : Nat} (hk : (pv u).ownBlock = some k) : k < w.heap.size := ((h.rows u hu).lt k hk).2
theorem Pgs.nm (h : Pgs w bm ks pv L) {u : Int} (hu : u ∈ ks) {k : Nat} (hk : (pv u).ownBlock = some k) : k ≠ bm := by
 rintro rfl
 obtain ⟨_, _, hb, _⟩ := h.map
 obtain ⟨c, hc⟩ := gB (h.rows u hu) hk
 rw [hb] at hc; cases hc
theorem Pgs.rowNm (h : Pgs w bm ks pv L) (u : Int) {k : Nat} (hk : (jH ks pv u).ownBlock = some k) : k < w.heap.size /\ k ≠ bm := by
 unfold jH at hk
 by_cases hu : u ∈ ks
 . rw [if_pos hu] at hk; exact ⟨h.lt hu hk, h.nm hu hk⟩
 . rw [if_neg hu] at hk; cases hk
theorem Pgs.row (h : Pgs w bm ks pv L) (u : Int) : w.ownsRow 0 269 3 (jH ks pv u) (L u).length ((L u).flatMap Su.cells) := by
 unfold jH
 by_cases hu : u ∈ ks
 . rw [if_pos hu]; exact h.rows u hu
 . rw [if_neg hu, h.nos u hu]; exact World.ownsRow_nil _ _ _ _
theorem Pgs.kept (h : Pgs w bm ks pv L) (hm : w'.heap[bm]? = w.heap[bm]?) (hk : ∀ u, u ∈ ks -> ∀ k, (pv u).ownBlock = some k -> w'.heap[k]? = w.heap[k]?) : Pgs w' bm ks pv L :=
 ⟨h.map.kept hm, fun u hu => iO (h.rows u hu) (hk u hu), h.nos, h.disj⟩
def aAA (ks : List Int) (u : Int) : List Int := u :: ks.filter fun v => decide (v ≠ u)
def aBS (pv : Int -> Value) (u : Int) (v : Value) : Int -> Value := fun i => if i = u then v else pv i
def aEf (L : Int -> List Su) (u : Int) (x : Su) : Int -> List Su := fun i => if i = u then L i ++ [x] else L i
theorem aL0 (ks : List Int) (pv : Int -> Value) (u : Int) (v : Value) : mZ u v (ks.map fun i => (i, pv i)) = (aAA ks u).map fun i => (i, aBS pv u v i) := by
 unfold mZ aAA aBS
 rw [List.map_cons, if_pos rfl, List.filter_map]
 congr 1
 refine List.map_congr_left fun i hi => ?_
 have : i ≠ u := by simpa using (List.mem_filter.1 hi).2
 rw [if_neg this]
theorem lD {ks : List Int} {u i : Int} : i ∈ aAA ks u ↔ i = u \/ i ∈ ks := by
 unfold aAA
 simp only [List.mem_cons, List.mem_filter, decide_eq_true_eq]
 by_cases e : i = u <;> simp [e]
theorem aGH (ks : List Int) (u : Int) : (aAA ks u).length <= ks.length + 1 := by
 unfold aAA; simp only [List.length_cons]; have := List.length_filter_le (fun v => decide (v ≠ u)) ks; omega
def tF (bm : Nat) (ks : List Int) (pv : Int -> Value) (L : Int -> List Su) (u : Int) (x : Su) (W w4 : World) : Prop :=
 ∃ v' : Value, Pgs w4 bm (aAA ks u) (aBS pv u v') (aEf L u x) /\ aF (fun j => j = bm \/ (jH ks pv u).ownBlock = some j) W w4 /\ (v'.ownBlock = (jH ks pv u).ownBlock \/ ∃ j, v'.ownBlock = some j /\ W.heap.size <= j)
theorem aJN {W w1 w2 w3 w4 : World} {C : Obj} {u : Int} {x : Su} {v' : Value} (h : Pgs W bm ks pv L) (hw1 : w1 = (W.alloc C).drew) (h12 : aF (· = bm) w1 w2) (h23 : w2.grownBy w3 (jH ks pv u).ownBlock)
 (hown : w3.ownsRow 0 269 3 v' ((L u).length + 1) ((L u).flatMap Su.cells ++ x.cells)) (hat : v'.ownBlock = (jH ks pv u).ownBlock \/ v'.ownBlock = some w2.heap.size)
 (hm : eA w4 ek lT bm (mZ u v' (ks.map fun i => (i, pv i)))) (h34 : aF (· = bm) w3 w4) : tF bm ks pv L u x W w4 := by
 have ho1 : aF (fun k => k = bm \/ (jH ks pv u).ownBlock = some k) W w1 := by subst hw1; exact (aF.ofAlloc W C).trans ⟨rfl, rfl, rfl, Nat.le_refl _, fun _ _ _ => rfl⟩
 have ho2 : aF (fun k => k = bm \/ (jH ks pv u).ownBlock = some k) W w2 := ho1.andThen h12 (fun _ _ h => h) (fun _ _ h => .inl h)
 have ho3 : aF (fun k => k = bm \/ (jH ks pv u).ownBlock = some k) W w3 := ho2.andThen (T := fun k => (jH ks pv u).ownBlock = some k) (aF.ofGrown h23 fun k e => e) (fun _ _ h => h) (fun _ _ h => .inr h)
 have ho4 : aF (fun k => k = bm \/ (jH ks pv u).ownBlock = some k) W w4 := ho3.andThen h34 (fun _ _ h => h) (fun _ _ h => .inl h)
 have hs2 : W.heap.size <= w2.heap.size := ho2.size
 have hvb : ∀ g, v'.ownBlock = some g -> g ≠ bm := by
  rintro g hg rfl
  rcases hat with e | e
  . exact (h.rowNm u (e ▸ hg)).2 rfl
  . rw [hg] at e; have := Option.some.inj e; have := h.map.lt; omega
 have hother : ∀ i, i ∈ ks -> i ≠ u -> ∀ k, (pv i).ownBlock = some k -> ¬ (k = bm \/ (jH ks pv u).ownBlock = some k) := by
  rintro i hi hiu k hk (e | e)
  . exact h.nm hi hk e
  . unfold jH at e
    by_cases hu : u ∈ ks
    . rw [if_pos hu] at e; exact h.disj i hi u hu hiu k hk e
    . rw [if_neg hu] at e; cases e
 rw [aL0] at hm
 refine ⟨v', ⟨hm, fun i hi => ?_, fun i hi => ?_, fun i hi j hj hij k hk => ?_⟩, ho4, ?_⟩
 . by_cases e : i = u
   . subst e
     unfold aBS aEf
     rw [if_pos rfl, if_pos rfl, List.length_append, List.flatMap_append]
     simp only [List.length_singleton, List.flatMap_cons, List.flatMap_nil, List.append_nil]
     exact iO hown fun g hg => h34.block g (hown.lt g hg).2 (hvb g hg)
   . have hik : i ∈ ks := (lD.1 hi).resolve_left e
     unfold aBS aEf
     rw [if_neg e, if_neg e]
     exact iO (h.rows i hik) fun g hg => ho4.block g (h.lt hik hg) (hother i hik e g hg)
 . have hi' : ¬ (i = u \/ i ∈ ks) := fun q => hi (lD.2 q)
   unfold aEf
   rw [if_neg fun e => hi' (.inl e)]
   exact h.nos i fun e => hi' (.inr e)
 . have hone : ∀ i, i ∈ ks -> i ≠ u -> ∀ k, (pv i).ownBlock = some k -> v'.ownBlock ≠ some k := by
    intro i hi hiu k hk e
    rcases hat with g | g
    . exact hother i hi hiu k hk (.inr (g ▸ e))
    . rw [e] at g; have := Option.some.inj g; have := h.lt hi hk; omega
   unfold aBS at hk ⊢
   by_cases ei : i = u
   . rw [if_pos ei] at hk
     have hj' : j ≠ u := fun e => hij (ei.trans e.symm)
     rw [if_neg hj']
     intro e
     exact hone j ((lD.1 hj).resolve_left hj') hj' k e hk
   . rw [if_neg ei] at hk
     have hik := (lD.1 hi).resolve_left ei
     by_cases ej : j = u
     . rw [if_pos ej]; exact hone i hik ei k hk
     . rw [if_neg ej]; exact h.disj i hik j ((lD.1 hj).resolve_left ej) hij k hk
 . exact hat.imp id fun e => ⟨_, e, hs2⟩
end
end Go.Proofs.YtaohacadochldaaGreat.B
namespace Go.Proofs.YtaohacadochldaaGreat.B
open Go.Proofs.Tryz
open Go.ChangeShapes Go.WideShapes Go.RowKit Go.Sort Go.MapKept
open Go.ChangeMaps (setBlock modify_eq_set set_perm)
section
variable {P : Program} {k : TypeId} {κ : Type} {ek : κ -> Value} {ok : κ -> Prop} {w : World} {b : Nat} {M : List (κ × Value)}
theorem eA.entry [DecidableEq κ] (K : vO P k ek ok) (KL : WideMaps.KeyLaw P k) {t e : TypeId} (ht : P.underlying t = some (.map k e)) (h : eA w ek ok b M) (x : κ) (hok : ok x) (hsz : M.length <= maxLen) {z : Value} (hz : ∀ u : World, (zeroValue e).run P u = .ok z u) :
 ∃ (v0 : Value) (st : Nat) (w2 : World), (Instr.mapEntry t (.map (some b)) (ek x)).run P w = .ok (.tuple #[v0, .int .i64 st]) w2 /\ aF (· = b) w w2 /\ ((x, v0) ∈ M \/ (∀ p ∈ M, p.1 ≠ x) /\ v0 = z) /\
  ∀ (w3 : World) (val : Value), w3.heap[b]? = w2.heap[b]? -> ∃ w4, (Instr.entryStore t (.map (some b)) (.int .i64 st) val).run P w3 = .ok () w4 /\ eA w4 ek ok b (mZ x val M) /\ aF (· = b) w3 w4 := by
 have hlt := h.lt
 have hup := fun v => h.update K ht x v hok
 obtain ⟨es, clock, hb, hS, h3, h4⟩ := h
 obtain ⟨l, hl⟩ := K.reads x hok
 have hlen : es.size = M.length := by have := h3.length_eq; simpa using this
 have F : WideElems.Fit (H := Unit) P k (fun _ => some (.nil, [])) es clock := ⟨by omega, hS, fun e he => by
  obtain ⟨l', hl'⟩ := pT K h3 h4 e he
  unfold WideElems.rd
  rw [hl']
  exact ⟨_, rfl⟩⟩
 obtain ⟨v0, st, es1, clock1, hrun, hv, hst⟩ := WideElems.entry_then_store KL ht hz hb F hl
 refine ⟨v0, st, _, hrun, lS w b _ rfl, ?_, fun w3 val hw3 => ?_⟩
 . rcases hv with ⟨e0, he0, hk0, rfl⟩ | ⟨hno, rfl⟩
   . left
     have : (e0.key, e0.val) ∈ M.map fun p => (ek p.1, p.2) := h3.mem_iff.1 (List.mem_map.2 ⟨e0, he0, rfl⟩)
     obtain ⟨p, hp, hq⟩ := List.mem_map.1 this
     have h1 := K.inj _ _ ((Prod.mk.inj hq).1.trans hk0)
     have h2 := (Prod.mk.inj hq).2
     rw [<- h1, <- h2]; exact hp
   . right
     refine ⟨fun p hp e1 => ?_, rfl⟩
     have : (ek p.1, p.2) ∈ es.toList.map fun e => (e.key, e.val) := h3.mem_iff.2 (List.mem_map.2 ⟨p, hp, rfl⟩)
     obtain ⟨e2, he2, hq⟩ := List.mem_map.1 this
     exact hno e2 he2 (by rw [<- e1]; exact (Prod.mk.inj hq).1)
 . rw [eG w b _ hlt] at hw3
   obtain ⟨es', clock', hr1, hr2⟩ := hst w3 val hw3
   obtain ⟨es2, clock2, hr3, hm⟩ := hup val
   rw [hr2] at hr3
   have he : (setBlock w b (.map es' clock')).heap[b]? = (setBlock w b (.map es2 clock2)).heap[b]? := by
    have := hr3
    simp only [Result.ok.injEq, true_and] at this
    rw [this]
   rw [eG w b _ hlt, eG w b _ hlt] at he
   refine ⟨_, hr1, hm.kept ?_, lS w3 b _ rfl⟩
   rw [eG w3 b _ (lt_of_block hw3), eG w b _ hlt]
   exact he
end
theorem fJ {P : Program} {ops : Array Oper} {o : Oper} {a : Act} {w : World} {K : Act -> World -> Prop} {Q : Exit -> Act -> World -> Prop} {E : Prop}
 (hg : o.guard = none) (s x : Operand) (t : TypeId) (hop : o.op = Op.call { callee := Callee.builtin Builtin.append, args := #[s, x], argTypes := #[t, t] })
 (base : Nat) (e : TypeId) (i : TypeInfo) (z : Value) (size bytes : Nat) (ht : P.underlying t = some (.slice e)) (hi : P.info? e = some i) (hz : i.zero = some z)
 (hsize : i.size = size) (hby : i.bytes = bytes) (hzs : z.cells.size = size) (hsz : 0 < size)
 (v : Value) (n : Nat) (xs : List Value) (hs : a.eval s = v) (hown : w.ownsRow base e size v n xs)
 (ad : Addr) (m c : Nat) (news : List Value) (hx : a.eval x = .slice (some ad) m c) (hl : news.length = m * size) (hnews : ∀ j u, news[j]? = some u -> w.cell? (ad.add j) = some u) (h1 : ∀ u ∈ news, u.oneCell' = true)
 (h63 : n + m <= maxLen) (hbytes : (n + m) * bytes <= 140737488355328) (hbase : base <= w.heap.size)
 (hK : ∀ v' w', w'.ownsRow base e size v' (n + m) (xs ++ news) -> w.grownBy w' v.ownBlock -> (v' = .slice none 0 0 ↔ v = .slice none 0 0 /\ m = 0) -> (v'.ownBlock = v.ownBlock \/ v'.ownBlock = some w.heap.size) -> K (a.put o.dst v') w') :
 if Region.wanted o (yielded ops a.tmps) = true then Oper.wp P o a w K Q else E := by
 have hw : Region.wanted o (yielded ops a.tmps) = true := by simp [Region.wanted, hg]
 rw [if_pos hw]
 obtain ⟨v', w', hr, h2, h3, h4, h5⟩ := run_append_own_at (P := P) w base t o.type e i z size bytes ht hi hz hsize hby hzs hsz v n xs hown ad m c news hl hnews h1 h63 hbytes hbase
 unfold Oper.wp execOp
 simp only [hop, resolve, invoke, builtin, Sem.run_bind, Sem.run_pure, Result.andThen_ok, List.map_toArray, List.map_cons, List.map_nil, hs, hx, hr]
 exact hK _ _ h2 h3 h4 h5
end Go.Proofs.YtaohacadochldaaGreat.B
