/- A part of the proof of a law of layer 12: al. -/
import Derived.Test.YtealhichdbimlaaGreatZNaj
import Derived.Deep.RegionLaw
import Derived.Maps.AppendAt
set_option linter.unusedVariables false
set_option linter.unusedSimpArgs false
set_option maxHeartbeats 12800000
set_option maxRecDepth 100000
namespace Go.Proofs.YtealhichdbimlaaGreat.B
open Go.Proofs.Tryz
open Go.ChangeShapes Go.WideShapes Go.RowKit Go.Sort
def rmO : Obj := .cells (rm 0 (fun _ => 0)).toArray tRm (0, 0)
theorem aAI : Obj.cells #[.pointer none, .pointer none, .pointer none, .pointer none, .pointer none, .pointer none, .pointer none, .pointer none] tRm (0, 0) = rmO := rfl
theorem cH.push {w w' : World} {g k r : Nat} {q : Nat -> Nat} {t : Nat -> Tm} (h : cH w g k q t) (hb : Below w.heap.size w w') (hk : k < 8) (a : dM w' r tC (t k)) (o : (t k).ok) (hr : w.heap.size <= r) :
 cH (w'.setCell ⟨g, k, none⟩ (.pointer (some ⟨r, 0, none⟩))) g (k + 1) (fun i => if i = k then r else q i) t := by
 have h' := h.below hb
 have hrg : r ≠ g := by have := h.lt; omega
 refine ⟨?_, ?_, ?_, ?_, by omega⟩
 . rw [aK h'.room, oL, show Value.pointer (some ⟨r, 0, none⟩) = eB r from rfl, aAJ k q r hk]
 . intro i hi
   by_cases e : i = k
   . subst e; rw [if_pos rfl]; exact a.other _ _ _ hrg
   . rw [if_neg e]; exact (h'.tms i (by omega)).other _ _ _ (h'.gne (by omega))
 . intro i hi
   by_cases e : i = k
   . subst e; exact o
   . exact h.ok i (by omega)
 . intro i j hi hj e
   by_cases ei : i = k <;> by_cases ej : j = k
   . rw [ei, ej]
   . rw [if_pos ei, if_neg ej] at e; have := h.ltq (show j < k by omega); omega
   . rw [if_neg ei, if_pos ej] at e; have := h.ltq (show i < k by omega); omega
   . rw [if_neg ei, if_neg ej] at e; exact h.one i j (by omega) (by omega) e
theorem tP (w : World) (t : Nat -> Tm) : cH (w.alloc rmO) w.heap.size 0 (fun _ => 0) t :=
 ⟨aD w rmO, fun i hi => by omega, fun i hi => by omega, fun i j hi => by omega, by omega⟩
theorem aAs (i : Int) (w : World) : Calls prog 176 #[.int .i64 i] w fun e w' => e = .returned (.pointer (some ⟨w.heap.size, 0, none⟩)) /\ w' = w.alloc (.cells (wl tz).toArray tC (0, 0)) := by
 go_enter func176, ntmps176
 go_wp2_with fail
 refine (aCQ w).mono ?_
 rintro e w1 ⟨rfl, rfl⟩
 exact aL
theorem uX {n : Nat} (n8 : n <= 8) (w : World) :
 Calls prog 175 #[.int .i64 n, .func (.func 176) #[] #[]] w fun e w' => ∃ q' : Nat -> Nat, e = .returned (.slice (some ⟨w.heap.size, 0, none⟩) n n) /\ cH w' w.heap.size n q' (fun _ => tz) /\ Below w.heap.size w w' /\ ∀ i, i < n -> w.heap.size <= q' i := by
 have R0 := tP w (fun _ => tz)
 have B0 := aO (aV w) rmO
 go_enter func175, ntmps175
 go_upto_region 2 with (fail)
 rw [aAI]
 generalize w.alloc rmO = W at *
 go_wp2_with fail
 go_loopw [8] (fun i wr => ∃ (k : Nat) (q' : Nat -> Nat), k <= n /\ i = .int .i64 k /\ cH wr w.heap.size k q' (fun _ => tz) /\ Below w.heap.size w wr /\ ∀ i, i < k -> w.heap.size <= q' i) (fun i wr => n - (intOf i).toNat)
 case atStart => exact ⟨0, _, by omega, rfl, R0, B0, fun i hi => by omega⟩
 case round =>
  clear R0 B0
  obtain ⟨k, q', hk, rfl, R, hB, hq⟩ := hrel
  by_cases hlt : k < n
  . skip
    go_wp2_with fail
    refine (aAs k wr).mono ?_
    rintro e w1 ⟨rfl, rfl⟩
    have hb1 := aO (aV wr) (.cells (wl tz).toArray tC (0, 0))
    have a1 : dM (wr.alloc (.cells (wl tz).toArray tC (0, 0))) wr.heap.size tC tz := aD wr _
    have R2 := R.push hb1 (by omega) a1 oM (Nat.le_refl _)
    have hB2 := (tr hB hb1).setCell (p := ⟨w.heap.size, k, none⟩) (Nat.le_refl _) (.pointer (some ⟨wr.heap.size, 0, none⟩))
    have hf : (wr.alloc (.cells (wl tz).toArray tC (0, 0))).frozen? ⟨w.heap.size, k, none⟩ = false := aG (R.below hb1).room k
    have hc : ∃ v, (wr.alloc (.cells (wl tz).toArray tC (0, 0))).cell? ⟨w.heap.size, k, none⟩ = some v := by
     rw [aA (R.below hb1).room k]
     have : k < (rm k q').length := by rw [kR]; omega
     rw [List.getElem?_toArray]
     exact ⟨_, List.getElem?_eq_getElem this⟩
    obtain ⟨v, hc⟩ := hc
    have hsz : w.heap.size <= wr.heap.size := hB.size
    have hq2 : ∀ i, i < k + 1 -> w.heap.size <= (fun i => if i = k then wr.heap.size else q' i) i := by
     intro i hi
     by_cases e : i = k
     . subst e; show w.heap.size <= (if i = i then wr.heap.size else q' i); rw [if_pos rfl]; exact hsz
     . show w.heap.size <= (if i = k then wr.heap.size else q' i); rw [if_neg e]; exact hq i (by omega)
    have HR := Hd R2
    have HB := Hd hB2
    have HQ := Hd hq2
    clear R hB R2 hB2 hq hq2 a1 hb1 
    generalize wr.alloc (.cells (wl tz).toArray tC (0, 0)) = W1 at *
    generalize wr.heap.size = r at *
    go_wp2_with fail
    go_roundw
    case rel => exact ⟨k + 1, _, by omega, by go_num, HR.out, HB.out, HQ.out⟩
    case measure => simp [intOf]; omega
  . obtain rfl : k = n := by omega
    have HR := Hd R
    clear R
    have hal : prog.arrayLen 302 = 8 := by kernel_rfl
    have hk8 : (k : Int) <= 8 := by omega
    go_wp2_with fail
    go_ret
    exact ⟨q', rfl, HR.out, hB, hq⟩
theorem aB7 (n : Nat) (n0 : 1 <= n) (n8 : n <= 8) (w : World) :
 Calls prog 104 #[.int .i64 n] w fun e w' => ∃ (p g : Nat) (q : Nat -> Nat), e = .returned (.tuple #[.pointer (some ⟨p, 0, none⟩), .int .i64 0]) /\ bG w' p g n q (fun _ => tz) /\ Below w.heap.size w w' /\ w.heap.size <= p /\ w.heap.size <= g /\ ∀ i, i < n -> w.heap.size <= q i := by
 go_enter func104, ntmps104
 go_wp2_with fail
 refine (uX n8 w).mono ?_
 rintro e w1 ⟨q, rfl, R, hB, hq⟩
 have B1 := aO hB (.cells #[.slice (some ⟨w.heap.size, 0, none⟩) n n] tBk (0, 0))
 have K : bG (w1.alloc (.cells #[.slice (some ⟨w.heap.size, 0, none⟩) n n] tBk (0, 0))) w1.heap.size w.heap.size n q (fun _ => tz) := ⟨aD w1 _, R.below (aO (aV w1) _)⟩
 have hs := hB.size
 go_wp2_with fail
 go_ret2
 exact ⟨_, _, q, rfl, K, B1, hs, Nat.le_refl _, hq⟩
theorem uC {t : Wd} {n : Int} (hen : t.en = true) (hf : t.fa = 0) (h : t.tot <= t.si + n) : t.tick n = { t with si := t.tot, fa := 2 } := by unfold Wd.tick; rw [if_pos ⟨hen, hf⟩, if_pos h]
theorem wL {t : Wd} {n : Int} (hen : t.en = true) (hf : t.fa = 0) (h : ¬ t.tot <= t.si + n) : t.tick n = { t with si := t.si + n } := by unfold Wd.tick; rw [if_pos ⟨hen, hf⟩, if_neg h]
theorem wA {t : Wd} {n : Int} (hen : t.en = true) (hf : t.fa = 0) (h : t.tot <= t.si + n) : t.ran n = t.tot - t.si := by unfold Wd.ran; rw [if_neg (by simp [hf]), if_pos hen, if_pos h]
theorem aAF {t : Wd} {n : Int} (hen : t.en = true) (hf : t.fa = 0) (h : ¬ t.tot <= t.si + n) : t.ran n = n := by unfold Wd.ran; rw [if_neg (by simp [hf]), if_pos hen, if_neg h]
theorem mS (t : Wd) (p : Nat) (w : World) (hen : t.en = true) (hf : t.fa = 0) (s0 : 0 <= t.si) (s1 : t.si <= t.tot) (t1 : t.tot < 4294967296) (a : bV w p t) :
 Calls prog 148 #[.pointer (some ⟨p, 0, none⟩)] w fun e w' => e = .returned (.int .u64 (t.tot - t.si)) /\ Below w.heap.size w w' := by
 have x0 := a.c0
 have x1 := a.c1
 have x2 := a.c2
 have hr := aA6 t w
 rw [decide_eq_true (show t.en = true /\ t.fa = 0 from ⟨hen, hf⟩)] at hr
 have hr := Hd hr
 clear hen hf
 go_enter func148, ntmps148
 go_wp2_with fail
 refine (hr.out).mono ?_
 rintro e w1 ⟨rfl, hb⟩
 have a1 := a.below hb
 clear hr x0 x1 x2 a
 have x4 := a1.c4
 have x5 := a1.c5
 go_wp2_with fail
 have hg := bY
 have hl := a1.lt
 refine wp_region_quiet_below (by kernel_rfl) (by kernel_rfl) ?_
 repeat (go_big_quiet_step (fail))
 refine wpQuiet_nil ?_
 intro _ hw'
 obtain ⟨⟨dq, osq⟩, hw''⟩ := hw'
 subst hw''
 go_wp2_with fail
 go_ret
 exact ⟨rfl, trG hb _ _⟩
theorem aA7 (t : Wd) (n : Int) (p : Nat) (w : World) (h : t.ok) (a : bV w p t) (n0 : 0 <= n) (n1 : n < 18446744073709551616) :
 Calls prog 89 #[.pointer (some ⟨p, 0, none⟩), .int .u64 n] w fun e w' => e = .returned (.int .u64 (t.ran n)) /\ bV w' p (t.tick n) /\ aE (· = p) w w' := by
 have F := Hd (fun w a => rD t p w a)
 have E := Hd (fun w a => rC t p w a)
 by_cases hf : t.fa = 0
 . have qf : (t.fa != 0) = false := by simp [hf]
   obtain ⟨en, hen⟩ : ∃ b, t.en = b := ⟨_, rfl⟩
   rw [hen] at E
   cases en
   . have e1 : t.tick n = t := by unfold Wd.tick; rw [if_neg (by rw [hen]; simp)]
     have e2 : t.ran n = n := by unfold Wd.ran; rw [if_neg (by simp [hf]), if_neg (by rw [hen]; simp)]
     rw [e1, e2]
     go_enter func89, ntmps89
     go_wp2_with fail
     refine (F.out _ a).mono ?_
     rintro e w' ⟨rfl, rfl⟩
     go_wp2_with fail
     refine (E.out _ a).mono ?_
     rintro e w' ⟨rfl, rfl⟩
     go_wp2_with fail
     go_ret
     exact ⟨rfl, a, aE.refl _ _⟩
   . have hlt := h.run hen hf
     have s0 := h.s0
     have t1 := h.t1
     obtain ⟨R, hR⟩ : ∃ R, t.tick n = R := ⟨_, rfl⟩
     obtain ⟨V, hV⟩ : ∃ V, t.ran n = V := ⟨_, rfl⟩
     rw [hR, hV]
     have HR := Hd hR
     have HV := Hd hV
     have L := Hd (fun w a => mS t p w hen hf s0 (by omega) t1 a)
     clear hR hV h
     by_cases hge : t.tot <= t.si + n
     . have hv : V = t.tot - t.si := by rw [<- HV.out, wA hen hf hge]
       have hr : R = { t with si := t.tot, fa := 2 } := by rw [<- HR.out, uC hen hf hge]
       have hm : min n (t.tot - t.si) = t.tot - t.si := by omega
       have hs : t.si + (t.tot - t.si) = t.tot := by omega
       have L2 := Hd (fun w a => by have := mS { t with si := t.tot } p w hen hf (by show 0 <= t.tot; omega) (Int.le_refl _) t1 a; rw [show t.tot - t.tot = 0 by omega] at this; exact this)
       rw [hv, hr]
       clear hv hr HR HV hen hf
       have hn : n = t.tot - t.si \/ ¬ n <= t.tot - t.si := by omega
       rcases hn with rfl | hn
       all_goals
        go_enter func89, ntmps89
        go_wp2_with fail
        refine (F.out _ a).mono ?_
        rintro e w' ⟨rfl, rfl⟩
        go_wp2_with fail
        refine (E.out _ a).mono ?_
        rintro e w' ⟨rfl, rfl⟩
        go_wp2_with fail
        refine (L.out _ a).mono ?_
        rintro e w1 ⟨rfl, hb⟩
        have A := a.below hb
        have ho := aE.ofBelow (S := (· = p)) hb
        have x5 := A.c5
        have f5 := A.free 5
        clear a hb L F E
        go_wp2_with fail
        have A1 := A.s5 t.tot
        have ho1 := ho.trans (bE w1 p 5 (.int .u64 t.tot))
        clear A ho x5 f5
        generalize w1.setCell ⟨p, 5, none⟩ (.int .u64 t.tot) = W1 at *
        refine (L2.out _ A1).mono ?_
        rintro e w2 ⟨rfl, hb⟩
        have A := A1.below hb
        have ho := ho1.trans (aE.ofBelow (S := (· = p)) hb)
        clear A1 hb L2 ho1
        have x2 := A.c2
        have f2 := A.free 2
        go_wp2_with fail
        go_ret
        exact ⟨rfl, A.s2 2, ho.trans (bE _ _ _ _)⟩
     . have hv : V = n := by rw [<- HV.out, aAF hen hf hge]
       have hr : R = { t with si := t.si + n } := by rw [<- HR.out, wL hen hf hge]
       have hm : min n (t.tot - t.si) = n := by omega
       have L2 := Hd (fun w a => mS { t with si := t.si + n } p w hen hf (by show 0 <= t.si + n; omega) (by show t.si + n <= t.tot; omega) t1 a)
       have hq : (t.tot - (t.si + n) == 0) = false := by simp; omega
       rw [hv, hr]
       clear hv hr HR HV hen hf
       go_enter func89, ntmps89
       go_wp2_with fail
       refine (F.out _ a).mono ?_
       rintro e w' ⟨rfl, rfl⟩
       go_wp2_with fail
       refine (E.out _ a).mono ?_
       rintro e w' ⟨rfl, rfl⟩
       go_wp2_with fail
       refine (L.out _ a).mono ?_
       rintro e w1 ⟨rfl, hb⟩
       have A := a.below hb
       have ho := aE.ofBelow (S := (· = p)) hb
       have x5 := A.c5
       have f5 := A.free 5
       clear a hb L F E
       go_wp2_with fail
       have A1 := A.s5 (t.si + n)
       have ho1 := ho.trans (bE w1 p 5 (.int .u64 (t.si + n)))
       clear A ho x5 f5
       generalize w1.setCell ⟨p, 5, none⟩ (.int .u64 (t.si + n)) = W1 at *
       refine (L2.out _ A1).mono ?_
       rintro e w2 ⟨rfl, hb⟩
       have A := A1.below hb
       have ho := ho1.trans (aE.ofBelow (S := (· = p)) hb)
       clear A1 hb L2 ho1
       have x2 := A.c2
       have f2 := A.free 2
       go_wp2_with fail
       go_ret
       exact ⟨rfl, A, ho⟩
 . have qf : (t.fa != 0) = true := by simp [hf]
   have e1 : t.tick n = t := by unfold Wd.tick; rw [if_neg (fun e => hf e.2)]
   have e2 : t.ran n = 0 := by unfold Wd.ran; rw [if_pos hf]
   rw [e1, e2]
   go_enter func89, ntmps89
   go_wp2_with fail
   refine (F.out _ a).mono ?_
   rintro e w' ⟨rfl, rfl⟩
   go_wp2_with fail
   go_ret
   exact ⟨rfl, a, aE.refl _ _⟩
theorem iD : (prog.info? 226).map (·.size) = some 7 := by kernel_rfl
theorem yI (t : Wd) : ∀ x ∈ dl t, x.oneCell' = true := by
 intro x h
 simp only [dl, List.mem_cons, List.not_mem_nil, or_false] at h
 rcases h with rfl | rfl | rfl | rfl | rfl | rfl | rfl <;> rfl
theorem bV.row {old : Array Value} {w : World} {b : Nat} (h : w.heap[b]? = some (.cells old tD (0, 0))) (t : Wd) : bV (w.setRow b (dl t).toArray) b t := cL _ h
section
variable {ops : Array Oper} {rest : List Oper} {o : Oper} {a : Act} {w : World} {Q : Exit -> Act -> World -> Prop}
theorem aAN (hgd : o.guard = none) (x y : Operand) (ho : o.op = .store 226 x y) {b : Nat} (hx : a.eval x = .pointer (some ⟨b, 0, none⟩)) {t : Wd} (hy : a.eval y = .agg (dl t).toArray) {t' : Wd} (hg : bV w b t')
 (h : wpList prog ops Q rest (a.put o.dst undef) (w.setRow b (dl t).toArray)) : wpList prog ops Q (o :: rest) a w := by
 refine aT hgd _ x y ho b 0 hx (dl t) hy hg iD (by simp [dl]) (yI _) ?_
 rw [bR _ _ (by simp [dl])]
 exact h
end
theorem yH (t : Wd) (p : Nat) (w : World) (a : bV w p t) :
 Calls prog 285 #[.pointer (some ⟨p, 0, none⟩)] w fun e w' => e = .returned (.tuple #[]) /\ bV w' p wz /\ aE (· = p) w w' := by
 go_enter func285, ntmps285
 go_wp2_with (refine aAN rfl (.tmp 6) (.tmp 5) rfl rfl (t := wz) rfl a ?_)
 go_end0
 exact ⟨rfl, bV.row a wz, sU _ _ _⟩
structure mF (w : World) (bm : Nat) (ks : List Int) (pv : Int -> Value) (L : Int -> List Su) : Prop where
 map : bD w ek eS bm (ks.map fun u => (u, pv u))
 rows : ∀ u, u ∈ ks -> w.ownsRow 0 247 3 (pv u) (L u).length ((L u).flatMap Su.cells)
 nos : ∀ u, u ∉ ks -> L u = []
 disj : ∀ u, u ∈ ks -> ∀ v, v ∈ ks -> u ≠ v -> ∀ k, (pv u).ownBlock = some k -> (pv v).ownBlock ≠ some k
theorem bM.pgs {w : World} {p bm : Nat} {rv : Value} {R : List (Int × Int)} {ks : List Int} {pv : Int -> Value} {Lp : Int -> List Su} (h : bM w p bm rv R ks pv Lp) : mF w bm ks pv Lp := ⟨h.map, h.rows, h.nos, h.disj⟩
section
variable {w w' : World} {bm : Nat} {ks : List Int} {pv : Int -> Value} {L : Int -> List Su}
theorem mF.lt (h : mF w bm ks pv L) {u : Int} (hu : u ∈ ks) {k : Nat} (hk : (pv u).ownBlock = some k) : k < w.heap.size := ((h.rows u hu).lt k hk).2
theorem mF.nm (h : mF w bm ks pv L) {u : Int} (hu : u ∈ ks) {k : Nat} (hk : (pv u).ownBlock = some k) : k ≠ bm := by
 rintro rfl
 obtain ⟨_, _, hb, _⟩ := h.map
 obtain ⟨c, hc⟩ := cG (h.rows u hu) hk
 rw [hb] at hc; cases hc
theorem mF.rowNm (h : mF w bm ks pv L) (u : Int) {k : Nat} (hk : (cO ks pv u).ownBlock = some k) : k < w.heap.size /\ k ≠ bm := by
 unfold cO at hk
 by_cases hu : u ∈ ks
 . rw [if_pos hu] at hk; exact ⟨h.lt hu hk, h.nm hu hk⟩
 . rw [if_neg hu] at hk; cases hk
theorem mF.row (h : mF w bm ks pv L) (u : Int) : w.ownsRow 0 247 3 (cO ks pv u) (L u).length ((L u).flatMap Su.cells) := by
 unfold cO
 by_cases hu : u ∈ ks
 . rw [if_pos hu]; exact h.rows u hu
 . rw [if_neg hu, h.nos u hu]; exact World.ownsRow_nil _ _ _ _
theorem mF.kept (h : mF w bm ks pv L) (hm : w'.heap[bm]? = w.heap[bm]?) (hk : ∀ u, u ∈ ks -> ∀ k, (pv u).ownBlock = some k -> w'.heap[k]? = w.heap[k]?) : mF w' bm ks pv L :=
 ⟨h.map.kept hm, fun u hu => cF (h.rows u hu) (hk u hu), h.nos, h.disj⟩
def kJ (ks : List Int) (u : Int) : List Int := u :: ks.filter fun v => decide (v ≠ u)
def lX (pv : Int -> Value) (u : Int) (v : Value) : Int -> Value := fun i => if i = u then v else pv i
def pJ (L : Int -> List Su) (u : Int) (x : Su) : Int -> List Su := fun i => if i = u then L i ++ [x] else L i
theorem zE (ks : List Int) (pv : Int -> Value) (u : Int) (v : Value) : eE u v (ks.map fun i => (i, pv i)) = (kJ ks u).map fun i => (i, lX pv u v i) := by
 unfold eE kJ lX
 rw [List.map_cons, if_pos rfl, List.filter_map]
 congr 1
 refine List.map_congr_left fun i hi => ?_
 have : i ≠ u := by simpa using (List.mem_filter.1 hi).2
 rw [if_neg this]
theorem dO {ks : List Int} {u i : Int} : i ∈ kJ ks u ↔ i = u \/ i ∈ ks := by
 unfold kJ
 simp only [List.mem_cons, List.mem_filter, decide_eq_true_eq]
 by_cases e : i = u <;> simp [e]
theorem rU (ks : List Int) (u : Int) : (kJ ks u).length <= ks.length + 1 := by
 unfold kJ; simp only [List.length_cons]; have := List.length_filter_le (fun v => decide (v ≠ u)) ks; omega
def gO (bm : Nat) (ks : List Int) (pv : Int -> Value) (L : Int -> List Su) (u : Int) (x : Su) (W w4 : World) : Prop :=
 ∃ v' : Value, mF w4 bm (kJ ks u) (lX pv u v') (pJ L u x) /\ aE (fun j => j = bm \/ (cO ks pv u).ownBlock = some j) W w4 /\ (v'.ownBlock = (cO ks pv u).ownBlock \/ ∃ j, v'.ownBlock = some j /\ W.heap.size <= j)
theorem wH {W w1 w2 w3 w4 : World} {C : Obj} {u : Int} {x : Su} {v' : Value} (h : mF W bm ks pv L) (hw1 : w1 = (W.alloc C).drew) (h12 : aE (· = bm) w1 w2) (h23 : w2.grownBy w3 (cO ks pv u).ownBlock)
 (hown : w3.ownsRow 0 247 3 v' ((L u).length + 1) ((L u).flatMap Su.cells ++ x.cells)) (hat : v'.ownBlock = (cO ks pv u).ownBlock \/ v'.ownBlock = some w2.heap.size)
 (hm : bD w4 ek eS bm (eE u v' (ks.map fun i => (i, pv i)))) (h34 : aE (· = bm) w3 w4) : gO bm ks pv L u x W w4 := by
 have ho1 : aE (fun k => k = bm \/ (cO ks pv u).ownBlock = some k) W w1 := by subst hw1; exact (aE.ofAlloc W C).trans ⟨rfl, rfl, rfl, Nat.le_refl _, fun _ _ _ => rfl⟩
 have ho2 : aE (fun k => k = bm \/ (cO ks pv u).ownBlock = some k) W w2 := ho1.andThen h12 (fun _ _ h => h) (fun _ _ h => .inl h)
 have ho3 : aE (fun k => k = bm \/ (cO ks pv u).ownBlock = some k) W w3 := ho2.andThen (T := fun k => (cO ks pv u).ownBlock = some k) (aE.ofGrown h23 fun k e => e) (fun _ _ h => h) (fun _ _ h => .inr h)
 have ho4 : aE (fun k => k = bm \/ (cO ks pv u).ownBlock = some k) W w4 := ho3.andThen h34 (fun _ _ h => h) (fun _ _ h => .inl h)
 have hs2 : W.heap.size <= w2.heap.size := ho2.size
 have hvb : ∀ g, v'.ownBlock = some g -> g ≠ bm := by
  rintro g hg rfl
  rcases hat with e | e
  . exact (h.rowNm u (e ▸ hg)).2 rfl
  . rw [hg] at e; have := Option.some.inj e; have := h.map.lt; omega
 have hother : ∀ i, i ∈ ks -> i ≠ u -> ∀ k, (pv i).ownBlock = some k -> ¬ (k = bm \/ (cO ks pv u).ownBlock = some k) := by
  rintro i hi hiu k hk (e | e)
  . exact h.nm hi hk e
  . unfold cO at e
    by_cases hu : u ∈ ks
    . rw [if_pos hu] at e; exact h.disj i hi u hu hiu k hk e
    . rw [if_neg hu] at e; cases e
 rw [zE] at hm
 refine ⟨v', ⟨hm, fun i hi => ?_, fun i hi => ?_, fun i hi j hj hij k hk => ?_⟩, ho4, ?_⟩
 . by_cases e : i = u
   . subst e
     unfold lX pJ
     rw [if_pos rfl, if_pos rfl, List.length_append, List.flatMap_append]
     simp only [List.length_singleton, List.flatMap_cons, List.flatMap_nil, List.append_nil]
     exact cF hown fun g hg => h34.block g (hown.lt g hg).2 (hvb g hg)
   . have hik : i ∈ ks := (dO.1 hi).resolve_left e
     unfold lX pJ
     rw [if_neg e, if_neg e]
     exact cF (h.rows i hik) fun g hg => ho4.block g (h.lt hik hg) (hother i hik e g hg)
 . have hi' : ¬ (i = u \/ i ∈ ks) := fun q => hi (dO.2 q)
   unfold pJ
   rw [if_neg fun e => hi' (.inl e)]
   exact h.nos i fun e => hi' (.inr e)
 . have hone : ∀ i, i ∈ ks -> i ≠ u -> ∀ k, (pv i).ownBlock = some k -> v'.ownBlock ≠ some k := by
    intro i hi hiu k hk e
    rcases hat with g | g
    . exact hother i hi hiu k hk (.inr (g ▸ e))
    . rw [e] at g; have := Option.some.inj g; have := h.lt hi hk; omega
   unfold lX at hk ⊢
   by_cases ei : i = u
   . rw [if_pos ei] at hk
     have hj' : j ≠ u := fun e => hij (ei.trans e.symm)
     rw [if_neg hj']
     intro e
     exact hone j ((dO.1 hj).resolve_left hj') hj' k e hk
   . rw [if_neg ei] at hk
     have hik := (dO.1 hi).resolve_left ei
     by_cases ej : j = u
     . rw [if_pos ej]; exact hone i hik ei k hk
     . rw [if_neg ej]; exact h.disj i hik j ((dO.1 hj).resolve_left ej) hij k hk
 . exact hat.imp id fun e => ⟨_, e, hs2⟩
end
end Go.Proofs.YtealhichdbimlaaGreat.B
namespace Go.Proofs.YtealhichdbimlaaGreat.B
open Go.Proofs.Tryz
open Go.ChangeShapes Go.WideShapes Go.RowKit Go.Sort Go.MapKept
open Go.ChangeMaps (setBlock modify_eq_set set_perm)
section
variable {P : Program} {k : TypeId} {κ : Type} {ek : κ -> Value} {ok : κ -> Prop} {w : World} {b : Nat} {M : List (κ × Value)}
theorem bD.entry [DecidableEq κ] (K : iI P k ek ok) (KL : WideMaps.KeyLaw P k) {t e : TypeId} (ht : P.underlying t = some (.map k e)) (h : bD w ek ok b M) (x : κ) (hok : ok x) (hsz : M.length <= maxLen) {z : Value} (hz : ∀ u : World, (zeroValue e).run P u = .ok z u) :
 ∃ (v0 : Value) (st : Nat) (w2 : World), (Instr.mapEntry t (.map (some b)) (ek x)).run P w = .ok (.tuple #[v0, .int .i64 st]) w2 /\ aE (· = b) w w2 /\ ((x, v0) ∈ M \/ (∀ p ∈ M, p.1 ≠ x) /\ v0 = z) /\
  ∀ (w3 : World) (val : Value), w3.heap[b]? = w2.heap[b]? -> ∃ w4, (Instr.entryStore t (.map (some b)) (.int .i64 st) val).run P w3 = .ok () w4 /\ bD w4 ek ok b (eE x val M) /\ aE (· = b) w3 w4 := by
 have hlt := h.lt
 have hup := fun v => h.update K ht x v hok
 obtain ⟨es, clock, hb, hS, h3, h4⟩ := h
 obtain ⟨l, hl⟩ := K.reads x hok
 have hlen : es.size = M.length := by have := h3.length_eq; simpa using this
 have F : WideElems.Fit (H := Unit) P k (fun _ => some (.nil, [])) es clock := ⟨by omega, hS, fun e he => by
  obtain ⟨l', hl'⟩ := fK K h3 h4 e he
  unfold WideElems.rd
  rw [hl']
  exact ⟨_, rfl⟩⟩
 obtain ⟨v0, st, es1, clock1, hrun, hv, hst⟩ := WideElems.entry_then_store KL ht hz hb F hl
 refine ⟨v0, st, _, hrun, dW w b _ rfl, ?_, fun w3 val hw3 => ?_⟩
 . rcases hv with ⟨e0, he0, hk0, rfl⟩ | ⟨hno, rfl⟩
   . left
     have : (e0.key, e0.val) ∈ M.map fun p => (ek p.1, p.2) := h3.mem_iff.1 (List.mem_map.2 ⟨e0, he0, rfl⟩)
     obtain ⟨p, hp, hq⟩ := List.mem_map.1 this
     have h1 := K.inj _ _ ((Prod.mk.inj hq).1.trans hk0)
     have h2 := (Prod.mk.inj hq).2
     rw [<- h1, <- h2]; exact hp
   . right
     refine ⟨fun p hp e1 => ?_, rfl⟩
     have : (ek p.1, p.2) ∈ es.toList.map fun e => (e.key, e.val) := h3.mem_iff.2 (List.mem_map.2 ⟨p, hp, rfl⟩)
     obtain ⟨e2, he2, hq⟩ := List.mem_map.1 this
     exact hno e2 he2 (by rw [<- e1]; exact (Prod.mk.inj hq).1)
 . rw [bC w b _ hlt] at hw3
   obtain ⟨es', clock', hr1, hr2⟩ := hst w3 val hw3
   obtain ⟨es2, clock2, hr3, hm⟩ := hup val
   rw [hr2] at hr3
   have he : (setBlock w b (.map es' clock')).heap[b]? = (setBlock w b (.map es2 clock2)).heap[b]? := by
    have := hr3
    simp only [Result.ok.injEq, true_and] at this
    rw [this]
   rw [bC w b _ hlt, bC w b _ hlt] at he
   refine ⟨_, hr1, hm.kept ?_, dW w3 b _ rfl⟩
   rw [bC w3 b _ (lt_of_block hw3), bC w b _ hlt]
   exact he
end
theorem cR {P : Program} {ops : Array Oper} {o : Oper} {a : Act} {w : World} {K : Act -> World -> Prop} {Q : Exit -> Act -> World -> Prop} {E : Prop}
 (hg : o.guard = none) (s x : Operand) (t : TypeId) (hop : o.op = Op.call { callee := Callee.builtin Builtin.append, args := #[s, x], argTypes := #[t, t] })
 (base : Nat) (e : TypeId) (i : TypeInfo) (z : Value) (size bytes : Nat) (ht : P.underlying t = some (.slice e)) (hi : P.info? e = some i) (hz : i.zero = some z)
 (hsize : i.size = size) (hby : i.bytes = bytes) (hzs : z.cells.size = size) (hsz : 0 < size)
 (v : Value) (n : Nat) (xs : List Value) (hs : a.eval s = v) (hown : w.ownsRow base e size v n xs)
 (ad : Addr) (m c : Nat) (news : List Value) (hx : a.eval x = .slice (some ad) m c) (hl : news.length = m * size) (hnews : ∀ j u, news[j]? = some u -> w.cell? (ad.add j) = some u) (h1 : ∀ u ∈ news, u.oneCell' = true)
 (h63 : n + m <= maxLen) (hbytes : (n + m) * bytes <= 140737488355328) (hbase : base <= w.heap.size)
 (hK : ∀ v' w', w'.ownsRow base e size v' (n + m) (xs ++ news) -> w.grownBy w' v.ownBlock -> (v' = .slice none 0 0 ↔ v = .slice none 0 0 /\ m = 0) -> (v'.ownBlock = v.ownBlock \/ v'.ownBlock = some w.heap.size) -> K (a.put o.dst v') w') :
 if Region.wanted o (yielded ops a.tmps) = true then Oper.wp P o a w K Q else E := by
 have hw : Region.wanted o (yielded ops a.tmps) = true := by simp [Region.wanted, hg]
 rw [if_pos hw]
 obtain ⟨v', w', hr, h2, h3, h4, h5⟩ := run_append_own_at (P := P) w base t o.type e i z size bytes ht hi hz hsize hby hzs hsz v n xs hown ad m c news hl hnews h1 h63 hbytes hbase
 unfold Oper.wp execOp
 simp only [hop, resolve, invoke, builtin, Sem.run_bind, Sem.run_pure, Result.andThen_ok, List.map_toArray, List.map_cons, List.map_nil, hs, hx, hr]
 exact hK _ _ h2 h3 h4 h5
end Go.Proofs.YtealhichdbimlaaGreat.B
namespace Go.Proofs.YtealhichdbimlaaGreat.B
open Go.Proofs.Tryz
open Go.ChangeShapes Go.WideShapes Go.RowKit Go.Sort
theorem tE : WideMaps.KeyLaw prog 295 := deep_law_laid rY (m := 2) (by omega) (of_decide_eq_true (by kernel_rfl)) (by kernel_rfl) (by rw [underlying295])
theorem rT : (prog.info? 247).map (fun i => (i.zero, i.size, i.bytes)) = some (some (.agg #[.int .u32 0, .int .u32 0, .nilIface]), 3, 24) := by kernel_rfl
theorem vG : (prog.info? 185).map (fun i => (i.zero, i.size, i.bytes)) = some (some (.agg #[.int .u32 0, .int .u32 0]), 2, 8) := by kernel_rfl
theorem pY (u : World) : (zeroValue 293).run prog u = .ok (.slice none 0 0) u := by kernel_rfl
theorem yE {w : World} {B : Nat} {c0 c1 c2 : Value} {t : TypeId} (h : w.heap[B]? = some (.cells #[c0, c1, c2] t (0, 0))) : ∀ j u, [c0, c1, c2][j]? = some u -> w.cell? ((⟨B, 0, none⟩ : Addr).add j) = some u := by
 intro j u hj
 have h1 := aA h j
 match j, hj with
 | 0, hj => simp at hj; subst hj; simpa [Addr.add] using h1
 | 1, hj => simp at hj; subst hj; simpa [Addr.add] using h1
 | 2, hj => simp at hj; subst hj; simpa [Addr.add] using h1
 | j + 3, hj => simp at hj
theorem yD {w : World} {B : Nat} {c0 c1 : Value} {t : TypeId} (h : w.heap[B]? = some (.cells #[c0, c1] t (0, 0))) : ∀ j u, [c0, c1][j]? = some u -> w.cell? ((⟨B, 0, none⟩ : Addr).add j) = some u := by
 intro j u hj
 have h1 := aA h j
 match j, hj with
 | 0, hj => simp at hj; subst hj; simpa [Addr.add] using h1
 | 1, hj => simp at hj; subst hj; simpa [Addr.add] using h1
 | j + 2, hj => simp at hj
def mI (p bm : Nat) (rv : Value) (R : List (Int × Int)) (b s : Int) (w w' : World) : Prop :=
 ∃ (g cap : Nat), w'.heap[p]? = some (.cells #[.slice (some ⟨g, 0, none⟩) (R.length + 1) cap, .map (some bm), .int .i64 0] 253 (0, 0)) /\ w'.ownsRow 0 185 2 (.slice (some ⟨g, 0, none⟩) (R.length + 1) cap) (R.length + 1) (R.flatMap aM ++ aM (b, s)) /\
  aE (fun k => k = p \/ rv.ownBlock = some k) w w' /\ (rv.ownBlock = some g \/ w.heap.size <= g)
theorem wB {p bm : Nat} {rv : Value} {R : List (Int × Int)} {b s : Int} {g cap : Nat} {w w1 w3 : World} {C : Obj} (hp : w.heap[p]? = some (.cells #[rv, .map (some bm), .int .i64 0] 253 (0, 0))) (hrp : ∀ k, rv.ownBlock = some k -> k ≠ p)
 (hw1 : w1 = (w.alloc C).drew) (h13 : w1.grownBy w3 rv.ownBlock) (hown : w3.ownsRow 0 185 2 (.slice (some ⟨g, 0, none⟩) (R.length + 1) cap) (R.length + 1) (R.flatMap aM ++ aM (b, s)))
 (hat : some g = rv.ownBlock \/ some g = some w1.heap.size) : mI p bm rv R b s w (w3.setCell ⟨p, 0, none⟩ (.slice (some ⟨g, 0, none⟩) (R.length + 1) cap)) := by
 have hlp := lt_of_block hp
 have ho1 : aE (fun k => k = p \/ rv.ownBlock = some k) w w1 := by subst hw1; exact ⟨rfl, rfl, rfl, (aE.ofAlloc (S := fun k => k = p \/ rv.ownBlock = some k) w C).size, fun k hk hs => (aE.ofAlloc (S := fun k => k = p \/ rv.ownBlock = some k) w C).block k hk hs⟩
 have hsz : w1.heap.size = w.heap.size + 1 := by subst hw1; show (w.alloc C).heap.size = _; simp
 have hp1 : w1.heap[p]? = w.heap[p]? := by subst hw1; exact aH w C hlp
 have hp3 : w3.heap[p]? = some (.cells #[rv, .map (some bm), .int .i64 0] 253 (0, 0)) := ((h13.block p (by omega) (fun e => hrp p e.symm rfl)).trans hp1).trans hp
 have hg : g ≠ p := by
  rcases hat with h | h
  . exact hrp g h.symm
  . simp at h; omega
 refine ⟨g, cap, by simpa using aK hp3 0 (.slice (some ⟨g, 0, none⟩) (R.length + 1) cap), cF hown fun k hk => ?_, (ho1.andThen (T := fun k => rv.ownBlock = some k) (aE.ofGrown h13 fun k e => e) (fun _ _ h => h) (fun _ _ h => .inr h)).andThen (T := (· = p)) (aE.ofSetCell _ _ _ rfl) (fun _ _ h => h) (fun _ _ h => .inl h), ?_⟩
 . have : k = g := by simp [Value.ownBlock] at hk; exact hk.symm
   subst this
   exact Below.heap_setCell _ _ _ _ hg
 . rcases hat with h | h
   . exact .inl h.symm
   . simp at h; right; omega
theorem tN {p bm : Nat} {rv v' : Value} {R : List (Int × Int)} {b s : Int} {w w3 : World} {C : Obj} (hp : w.heap[p]? = some (.cells #[rv, .map (some bm), .int .i64 0] 253 (0, 0))) (hrp : ∀ k, rv.ownBlock = some k -> k ≠ p)
 (h13 : ((w.alloc C).drew).grownBy w3 rv.ownBlock) (hown : w3.ownsRow 0 185 2 v' (R.length + 1) (R.flatMap aM ++ [.int .u32 b, .int .u32 s]))
 (hat : v'.ownBlock = rv.ownBlock \/ v'.ownBlock = some (w.alloc C).drew.heap.size) :
 ∃ g cap, v' = .slice (some ⟨g, 0, none⟩) (R.length + 1) cap /\ w3.cell? ⟨p, 0, none⟩ = some rv /\ w3.frozen? ⟨p, 0, none⟩ = false /\ mI p bm rv R b s w (w3.setCell ⟨p, 0, none⟩ (.slice (some ⟨g, 0, none⟩) (R.length + 1) cap)) := by
 rcases eF hown with ⟨_, h⟩ | ⟨g, cap, rfl, _⟩
 . omega
 . have hlp := lt_of_block hp
   have hp3 : w3.heap[p]? = some (.cells #[rv, .map (some bm), .int .i64 0] 253 (0, 0)) := ((h13.block p (by show p < (w.alloc C).heap.size; simp; omega) (fun e => hrp p e.symm rfl)).trans (aH w C hlp)).trans hp
   exact ⟨g, cap, rfl, by simpa using aA hp3 0, aG hp3 0, wB hp hrp rfl h13 hown hat⟩
theorem aCT (b s : Int) : ∀ u ∈ [Value.int .u32 b, Value.int .u32 s], u.oneCell' = true := by
 intro u hu; simp at hu; rcases hu with rfl | rfl <;> rfl
end Go.Proofs.YtealhichdbimlaaGreat.B
