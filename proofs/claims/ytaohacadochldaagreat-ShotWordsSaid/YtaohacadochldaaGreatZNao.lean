/- A part of the proof of a law of layer 12: ao. -/
import Derived.Test.YtaohacadochldaaGreatZNal
import Derived.Deep.RegionLaw
import Derived.Maps.AppendAt
import Derived.Deep.CutRange
set_option linter.unusedVariables false
set_option linter.unusedSimpArgs false
set_option maxHeartbeats 12800000
set_option maxRecDepth 100000
namespace Go.Proofs.YtaohacadochldaaGreat.B
open Go.Proofs.Tryz
open Go.ChangeShapes Go.WideShapes Go.RowKit Go.Sort
structure pU (w : World) (bm : Nat) (ks : List Int) (pv : Int -> Value) (L : Int -> List Su) : Prop where
 map : bI w ek fP bm (ks.map fun u => (u, pv u))
 rows : ∀ u, u ∈ ks -> w.ownsRow 0 269 3 (pv u) (L u).length ((L u).flatMap Su.cells)
 nos : ∀ u, u ∉ ks -> L u = []
 disj : ∀ u, u ∈ ks -> ∀ v, v ∈ ks -> u ≠ v -> ∀ k, (pv u).ownBlock = some k -> (pv v).ownBlock ≠ some k
theorem bQ.pgs {w : World} {p bm : Nat} {rv : Value} {R : List (Int × Int)} {ks : List Int} {pv : Int -> Value} {Lp : Int -> List Su} (h : bQ w p bm rv R ks pv Lp) : pU w bm ks pv Lp := ⟨h.map, h.rows, h.nos, h.disj⟩
section
variable {w w' : World} {bm : Nat} {ks : List Int} {pv : Int -> Value} {L : Int -> List Su}
theorem pU.lt (h : pU w bm ks pv L) {u : Int} (hu : u ∈ ks) {k : Nat} (hk : (pv u).ownBlock = some k) : k < w.heap.size := ((h.rows u hu).lt k hk).2
theorem pU.nm (h : pU w bm ks pv L) {u : Int} (hu : u ∈ ks) {k : Nat} (hk : (pv u).ownBlock = some k) : k ≠ bm := by
 rintro rfl
 obtain ⟨_, _, hb, _⟩ := h.map
 obtain ⟨c, hc⟩ := cR (h.rows u hu) hk
 rw [hb] at hc; cases hc
theorem pU.rowNm (h : pU w bm ks pv L) (u : Int) {k : Nat} (hk : (cZ ks pv u).ownBlock = some k) : k < w.heap.size /\ k ≠ bm := by
 unfold cZ at hk
 by_cases hu : u ∈ ks
 . rw [if_pos hu] at hk; exact ⟨h.lt hu hk, h.nm hu hk⟩
 . rw [if_neg hu] at hk; cases hk
theorem pU.row (h : pU w bm ks pv L) (u : Int) : w.ownsRow 0 269 3 (cZ ks pv u) (L u).length ((L u).flatMap Su.cells) := by
 unfold cZ
 by_cases hu : u ∈ ks
 . rw [if_pos hu]; exact h.rows u hu
 . rw [if_neg hu, h.nos u hu]; exact World.ownsRow_nil _ _ _ _
theorem pU.kept (h : pU w bm ks pv L) (hm : w'.heap[bm]? = w.heap[bm]?) (hk : ∀ u, u ∈ ks -> ∀ k, (pv u).ownBlock = some k -> w'.heap[k]? = w.heap[k]?) : pU w' bm ks pv L :=
 ⟨h.map.kept hm, fun u hu => cQ (h.rows u hu) (hk u hu), h.nos, h.disj⟩
def nD (ks : List Int) (u : Int) : List Int := u :: ks.filter fun v => decide (v ≠ u)
def pE (pv : Int -> Value) (u : Int) (v : Value) : Int -> Value := fun i => if i = u then v else pv i
def tL (L : Int -> List Su) (u : Int) (x : Su) : Int -> List Su := fun i => if i = u then L i ++ [x] else L i
theorem aBY (ks : List Int) (pv : Int -> Value) (u : Int) (v : Value) : eW u v (ks.map fun i => (i, pv i)) = (nD ks u).map fun i => (i, pE pv u v i) := by
 unfold eW nD pE
 rw [List.map_cons, if_pos rfl, List.filter_map]
 congr 1
 refine List.map_congr_left fun i hi => ?_
 have : i ≠ u := by simpa using (List.mem_filter.1 hi).2
 rw [if_neg this]
theorem eC {ks : List Int} {u i : Int} : i ∈ nD ks u ↔ i = u \/ i ∈ ks := by
 unfold nD
 simp only [List.mem_cons, List.mem_filter, decide_eq_true_eq]
 by_cases e : i = u <;> simp [e]
theorem wJ (ks : List Int) (u : Int) : (nD ks u).length <= ks.length + 1 := by
 unfold nD; simp only [List.length_cons]; have := List.length_filter_le (fun v => decide (v ≠ u)) ks; omega
def jB (bm : Nat) (ks : List Int) (pv : Int -> Value) (L : Int -> List Su) (u : Int) (x : Su) (W w4 : World) : Prop :=
 ∃ v' : Value, pU w4 bm (nD ks u) (pE pv u v') (tL L u x) /\ aD (fun j => j = bm \/ (cZ ks pv u).ownBlock = some j) W w4 /\ (v'.ownBlock = (cZ ks pv u).ownBlock \/ ∃ j, v'.ownBlock = some j /\ W.heap.size <= j)
theorem aAV {W w1 w2 w3 w4 : World} {C : Obj} {u : Int} {x : Su} {v' : Value} (h : pU W bm ks pv L) (hw1 : w1 = (W.alloc C).drew) (h12 : aD (· = bm) w1 w2) (h23 : w2.grownBy w3 (cZ ks pv u).ownBlock)
 (hown : w3.ownsRow 0 269 3 v' ((L u).length + 1) ((L u).flatMap Su.cells ++ x.cells)) (hat : v'.ownBlock = (cZ ks pv u).ownBlock \/ v'.ownBlock = some w2.heap.size)
 (hm : bI w4 ek fP bm (eW u v' (ks.map fun i => (i, pv i)))) (h34 : aD (· = bm) w3 w4) : jB bm ks pv L u x W w4 := by
 have ho1 : aD (fun k => k = bm \/ (cZ ks pv u).ownBlock = some k) W w1 := by subst hw1; exact (aD.ofAlloc W C).trans ⟨rfl, rfl, rfl, Nat.le_refl _, fun _ _ _ => rfl⟩
 have ho2 : aD (fun k => k = bm \/ (cZ ks pv u).ownBlock = some k) W w2 := ho1.andThen h12 (fun _ _ h => h) (fun _ _ h => .inl h)
 have ho3 : aD (fun k => k = bm \/ (cZ ks pv u).ownBlock = some k) W w3 := ho2.andThen (T := fun k => (cZ ks pv u).ownBlock = some k) (aD.ofGrown h23 fun k e => e) (fun _ _ h => h) (fun _ _ h => .inr h)
 have ho4 : aD (fun k => k = bm \/ (cZ ks pv u).ownBlock = some k) W w4 := ho3.andThen h34 (fun _ _ h => h) (fun _ _ h => .inl h)
 have hs2 : W.heap.size <= w2.heap.size := ho2.size
 have hvb : ∀ g, v'.ownBlock = some g -> g ≠ bm := by
  rintro g hg rfl
  rcases hat with e | e
  . exact (h.rowNm u (e ▸ hg)).2 rfl
  . rw [hg] at e; have := Option.some.inj e; have := h.map.lt; omega
 have hother : ∀ i, i ∈ ks -> i ≠ u -> ∀ k, (pv i).ownBlock = some k -> ¬ (k = bm \/ (cZ ks pv u).ownBlock = some k) := by
  rintro i hi hiu k hk (e | e)
  . exact h.nm hi hk e
  . unfold cZ at e
    by_cases hu : u ∈ ks
    . rw [if_pos hu] at e; exact h.disj i hi u hu hiu k hk e
    . rw [if_neg hu] at e; cases e
 rw [aBY] at hm
 refine ⟨v', ⟨hm, fun i hi => ?_, fun i hi => ?_, fun i hi j hj hij k hk => ?_⟩, ho4, ?_⟩
 . by_cases e : i = u
   . subst e
     unfold pE tL
     rw [if_pos rfl, if_pos rfl, List.length_append, List.flatMap_append]
     simp only [List.length_singleton, List.flatMap_cons, List.flatMap_nil, List.append_nil]
     exact cQ hown fun g hg => h34.block g (hown.lt g hg).2 (hvb g hg)
   . have hik : i ∈ ks := (eC.1 hi).resolve_left e
     unfold pE tL
     rw [if_neg e, if_neg e]
     exact cQ (h.rows i hik) fun g hg => ho4.block g (h.lt hik hg) (hother i hik e g hg)
 . have hi' : ¬ (i = u \/ i ∈ ks) := fun q => hi (eC.2 q)
   unfold tL
   rw [if_neg fun e => hi' (.inl e)]
   exact h.nos i fun e => hi' (.inr e)
 . have hone : ∀ i, i ∈ ks -> i ≠ u -> ∀ k, (pv i).ownBlock = some k -> v'.ownBlock ≠ some k := by
    intro i hi hiu k hk e
    rcases hat with g | g
    . exact hother i hi hiu k hk (.inr (g ▸ e))
    . rw [e] at g; have := Option.some.inj g; have := h.lt hi hk; omega
   unfold pE at hk ⊢
   by_cases ei : i = u
   . rw [if_pos ei] at hk
     have hj' : j ≠ u := fun e => hij (ei.trans e.symm)
     rw [if_neg hj']
     intro e
     exact hone j ((eC.1 hj).resolve_left hj') hj' k e hk
   . rw [if_neg ei] at hk
     have hik := (eC.1 hi).resolve_left ei
     by_cases ej : j = u
     . rw [if_pos ej]; exact hone i hik ei k hk
     . rw [if_neg ej]; exact h.disj i hik j ((eC.1 hj).resolve_left ej) hij k hk
 . exact hat.imp id fun e => ⟨_, e, hs2⟩
end
end Go.Proofs.YtaohacadochldaaGreat.B
namespace Go.Proofs.YtaohacadochldaaGreat.B
open Go.Proofs.Tryz
open Go.ChangeShapes Go.WideShapes Go.RowKit Go.Sort Go.MapKept
open Go.ChangeMaps (setBlock modify_eq_set set_perm)
section
variable {P : Program} {k : TypeId} {κ : Type} {ek : κ -> Value} {ok : κ -> Prop} {w : World} {b : Nat} {M : List (κ × Value)}
theorem bI.entry [DecidableEq κ] (K : kL P k ek ok) (KL : WideMaps.KeyLaw P k) {t e : TypeId} (ht : P.underlying t = some (.map k e)) (h : bI w ek ok b M) (x : κ) (hok : ok x) (hsz : M.length <= maxLen) {z : Value} (hz : ∀ u : World, (zeroValue e).run P u = .ok z u) :
 ∃ (v0 : Value) (st : Nat) (w2 : World), (Instr.mapEntry t (.map (some b)) (ek x)).run P w = .ok (.tuple #[v0, .int .i64 st]) w2 /\ aD (· = b) w w2 /\ ((x, v0) ∈ M \/ (∀ p ∈ M, p.1 ≠ x) /\ v0 = z) /\
  ∀ (w3 : World) (val : Value), w3.heap[b]? = w2.heap[b]? -> ∃ w4, (Instr.entryStore t (.map (some b)) (.int .i64 st) val).run P w3 = .ok () w4 /\ bI w4 ek ok b (eW x val M) /\ aD (· = b) w3 w4 := by
 have hlt := h.lt
 have hup := fun v => h.update K ht x v hok
 obtain ⟨es, clock, hb, hS, h3, h4⟩ := h
 obtain ⟨l, hl⟩ := K.reads x hok
 have hlen : es.size = M.length := by have := h3.length_eq; simpa using this
 have F : WideElems.Fit (H := Unit) P k (fun _ => some (.nil, [])) es clock := ⟨by omega, hS, fun e he => by
  obtain ⟨l', hl'⟩ := gL K h3 h4 e he
  unfold WideElems.rd
  rw [hl']
  exact ⟨_, rfl⟩⟩
 obtain ⟨v0, st, es1, clock1, hrun, hv, hst⟩ := WideElems.entry_then_store KL ht hz hb F hl
 refine ⟨v0, st, _, hrun, eJ w b _ rfl, ?_, fun w3 val hw3 => ?_⟩
 . rcases hv with ⟨e0, he0, hk0, rfl⟩ | ⟨hno, rfl⟩
   . left
     have : (e0.key, e0.val) ∈ M.map fun p => (ek p.1, p.2) := h3.mem_iff.1 (List.mem_map.2 ⟨e0, he0, rfl⟩)
     obtain ⟨p, hp, hq⟩ := List.mem_map.1 this
     have h1 := K.inj _ _ ((Prod.mk.inj hq).1.trans hk0)
     have h2 := (Prod.mk.inj hq).2
     rw [<- h1, <- h2]; exact hp
   . right
     refine ⟨fun p hp e1 => ?_, rfl⟩
     have : (ek p.1, p.2) ∈ es.toList.map fun e => (e.key, e.val) := h3.mem_iff.2 (List.mem_map.2 ⟨p, hp, rfl⟩)
     obtain ⟨e2, he2, hq⟩ := List.mem_map.1 this
     exact hno e2 he2 (by rw [<- e1]; exact (Prod.mk.inj hq).1)
 . rw [bH w b _ hlt] at hw3
   obtain ⟨es', clock', hr1, hr2⟩ := hst w3 val hw3
   obtain ⟨es2, clock2, hr3, hm⟩ := hup val
   rw [hr2] at hr3
   have he : (setBlock w b (.map es' clock')).heap[b]? = (setBlock w b (.map es2 clock2)).heap[b]? := by
    have := hr3
    simp only [Result.ok.injEq, true_and] at this
    rw [this]
   rw [bH w b _ hlt, bH w b _ hlt] at he
   refine ⟨_, hr1, hm.kept ?_, eJ w3 b _ rfl⟩
   rw [bH w3 b _ (lt_of_block hw3), bH w b _ hlt]
   exact he
end
theorem dC {P : Program} {ops : Array Oper} {o : Oper} {a : Act} {w : World} {K : Act -> World -> Prop} {Q : Exit -> Act -> World -> Prop} {E : Prop}
 (hg : o.guard = none) (s x : Operand) (t : TypeId) (hop : o.op = Op.call { callee := Callee.builtin Builtin.append, args := #[s, x], argTypes := #[t, t] })
 (base : Nat) (e : TypeId) (i : TypeInfo) (z : Value) (size bytes : Nat) (ht : P.underlying t = some (.slice e)) (hi : P.info? e = some i) (hz : i.zero = some z)
 (hsize : i.size = size) (hby : i.bytes = bytes) (hzs : z.cells.size = size) (hsz : 0 < size)
 (v : Value) (n : Nat) (xs : List Value) (hs : a.eval s = v) (hown : w.ownsRow base e size v n xs)
 (ad : Addr) (m c : Nat) (news : List Value) (hx : a.eval x = .slice (some ad) m c) (hl : news.length = m * size) (hnews : ∀ j u, news[j]? = some u -> w.cell? (ad.add j) = some u) (h1 : ∀ u ∈ news, u.oneCell' = true)
 (h63 : n + m <= maxLen) (hbytes : (n + m) * bytes <= 140737488355328) (hbase : base <= w.heap.size)
 (hK : ∀ v' w', w'.ownsRow base e size v' (n + m) (xs ++ news) -> w.grownBy w' v.ownBlock -> (v' = .slice none 0 0 ↔ v = .slice none 0 0 /\ m = 0) -> (v'.ownBlock = v.ownBlock \/ v'.ownBlock = some w.heap.size) -> K (a.put o.dst v') w') :
 if Region.wanted o (yielded ops a.tmps) = true then Oper.wp P o a w K Q else E := by
 have hw : Region.wanted o (yielded ops a.tmps) = true := by simp [Region.wanted, hg]
 rw [if_pos hw]
 obtain ⟨v', w', hr, h2, h3, h4, h5⟩ := run_append_own_at (P := P) w base t o.type e i z size bytes ht hi hz hsize hby hzs hsz v n xs hown ad m c news hl hnews h1 h63 hbytes hbase
 unfold Oper.wp execOp
 simp only [hop, resolve, invoke, builtin, Sem.run_bind, Sem.run_pure, Result.andThen_ok, List.map_toArray, List.map_cons, List.map_nil, hs, hx, hr]
 exact hK _ _ h2 h3 h4 h5
end Go.Proofs.YtaohacadochldaaGreat.B
namespace Go.Proofs.YtaohacadochldaaGreat.B
open Go.Proofs.Tryz
open Go.ChangeShapes Go.WideShapes Go.RowKit Go.Sort
theorem xO : WideMaps.KeyLaw prog 305 := deep_law_laid wO (m := 2) (by omega) (of_decide_eq_true (by kernel_rfl)) (by kernel_rfl) (by rw [underlying305])
theorem wG : (prog.info? 269).map (fun i => (i.zero, i.size, i.bytes)) = some (some (.agg #[.int .u32 0, .int .u32 0, .nilIface]), 3, 24) := by kernel_rfl
theorem zV : (prog.info? 180).map (fun i => (i.zero, i.size, i.bytes)) = some (some (.agg #[.int .u32 0, .int .u32 0]), 2, 8) := by kernel_rfl
theorem uK (u : World) : (zeroValue 307).run prog u = .ok (.slice none 0 0) u := by kernel_rfl
theorem aBF {w : World} {B : Nat} {c0 c1 c2 : Value} {t : TypeId} (h : w.heap[B]? = some (.cells #[c0, c1, c2] t (0, 0))) : ∀ j u, [c0, c1, c2][j]? = some u -> w.cell? ((⟨B, 0, none⟩ : Addr).add j) = some u := by
 intro j u hj
 have h1 := aA h j
 match j, hj with
 | 0, hj => simp at hj; subst hj; simpa [Addr.add] using h1
 | 1, hj => simp at hj; subst hj; simpa [Addr.add] using h1
 | 2, hj => simp at hj; subst hj; simpa [Addr.add] using h1
 | j + 3, hj => simp at hj
theorem aBE {w : World} {B : Nat} {c0 c1 : Value} {t : TypeId} (h : w.heap[B]? = some (.cells #[c0, c1] t (0, 0))) : ∀ j u, [c0, c1][j]? = some u -> w.cell? ((⟨B, 0, none⟩ : Addr).add j) = some u := by
 intro j u hj
 have h1 := aA h j
 match j, hj with
 | 0, hj => simp at hj; subst hj; simpa [Addr.add] using h1
 | 1, hj => simp at hj; subst hj; simpa [Addr.add] using h1
 | j + 2, hj => simp at hj
def qA (p bm : Nat) (rv : Value) (R : List (Int × Int)) (b s : Int) (w w' : World) : Prop :=
 ∃ (g cap : Nat), w'.heap[p]? = some (.cells #[.slice (some ⟨g, 0, none⟩) (R.length + 1) cap, .map (some bm), .int .i64 0] 265 (0, 0)) /\ w'.ownsRow 0 180 2 (.slice (some ⟨g, 0, none⟩) (R.length + 1) cap) (R.length + 1) (R.flatMap aR ++ aR (b, s)) /\
  aD (fun k => k = p \/ rv.ownBlock = some k) w w' /\ (rv.ownBlock = some g \/ w.heap.size <= g)
theorem aAN {p bm : Nat} {rv : Value} {R : List (Int × Int)} {b s : Int} {g cap : Nat} {w w1 w3 : World} {C : Obj} (hp : w.heap[p]? = some (.cells #[rv, .map (some bm), .int .i64 0] 265 (0, 0))) (hrp : ∀ k, rv.ownBlock = some k -> k ≠ p)
 (hw1 : w1 = (w.alloc C).drew) (h13 : w1.grownBy w3 rv.ownBlock) (hown : w3.ownsRow 0 180 2 (.slice (some ⟨g, 0, none⟩) (R.length + 1) cap) (R.length + 1) (R.flatMap aR ++ aR (b, s)))
 (hat : some g = rv.ownBlock \/ some g = some w1.heap.size) : qA p bm rv R b s w (w3.setCell ⟨p, 0, none⟩ (.slice (some ⟨g, 0, none⟩) (R.length + 1) cap)) := by
 have hlp := lt_of_block hp
 have ho1 : aD (fun k => k = p \/ rv.ownBlock = some k) w w1 := by subst hw1; exact ⟨rfl, rfl, rfl, (aD.ofAlloc (S := fun k => k = p \/ rv.ownBlock = some k) w C).size, fun k hk hs => (aD.ofAlloc (S := fun k => k = p \/ rv.ownBlock = some k) w C).block k hk hs⟩
 have hsz : w1.heap.size = w.heap.size + 1 := by subst hw1; show (w.alloc C).heap.size = _; simp
 have hp1 : w1.heap[p]? = w.heap[p]? := by subst hw1; exact aJ w C hlp
 have hp3 : w3.heap[p]? = some (.cells #[rv, .map (some bm), .int .i64 0] 265 (0, 0)) := ((h13.block p (by omega) (fun e => hrp p e.symm rfl)).trans hp1).trans hp
 have hg : g ≠ p := by
  rcases hat with h | h
  . exact hrp g h.symm
  . simp at h; omega
 refine ⟨g, cap, by simpa using aK hp3 0 (.slice (some ⟨g, 0, none⟩) (R.length + 1) cap), cQ hown fun k hk => ?_, (ho1.andThen (T := fun k => rv.ownBlock = some k) (aD.ofGrown h13 fun k e => e) (fun _ _ h => h) (fun _ _ h => .inr h)).andThen (T := (· = p)) (aD.ofSetCell _ _ _ rfl) (fun _ _ h => h) (fun _ _ h => .inl h), ?_⟩
 . have : k = g := by simp [Value.ownBlock] at hk; exact hk.symm
   subst this
   exact Below.heap_setCell _ _ _ _ hg
 . rcases hat with h | h
   . exact .inl h.symm
   . simp at h; right; omega
theorem xV {p bm : Nat} {rv v' : Value} {R : List (Int × Int)} {b s : Int} {w w3 : World} {C : Obj} (hp : w.heap[p]? = some (.cells #[rv, .map (some bm), .int .i64 0] 265 (0, 0))) (hrp : ∀ k, rv.ownBlock = some k -> k ≠ p)
 (h13 : ((w.alloc C).drew).grownBy w3 rv.ownBlock) (hown : w3.ownsRow 0 180 2 v' (R.length + 1) (R.flatMap aR ++ [.int .u32 b, .int .u32 s]))
 (hat : v'.ownBlock = rv.ownBlock \/ v'.ownBlock = some (w.alloc C).drew.heap.size) :
 ∃ g cap, v' = .slice (some ⟨g, 0, none⟩) (R.length + 1) cap /\ w3.cell? ⟨p, 0, none⟩ = some rv /\ w3.frozen? ⟨p, 0, none⟩ = false /\ qA p bm rv R b s w (w3.setCell ⟨p, 0, none⟩ (.slice (some ⟨g, 0, none⟩) (R.length + 1) cap)) := by
 rcases eX hown with ⟨_, h⟩ | ⟨g, cap, rfl, _⟩
 . omega
 . have hlp := lt_of_block hp
   have hp3 : w3.heap[p]? = some (.cells #[rv, .map (some bm), .int .i64 0] 265 (0, 0)) := ((h13.block p (by show p < (w.alloc C).heap.size; simp; omega) (fun e => hrp p e.symm rfl)).trans (aJ w C hlp)).trans hp
   exact ⟨g, cap, rfl, by simpa using aA hp3 0, aH hp3 0, aAN hp hrp rfl h13 hown hat⟩
theorem aDs (b s : Int) : ∀ u ∈ [Value.int .u32 b, Value.int .u32 s], u.oneCell' = true := by
 intro u hu; simp at hu; rcases hu with rfl | rfl <;> rfl
def eI (L : Int -> List Su) (x : Su) (u0 k : Int) : Int -> List Su := fun u => if u0 <= u /\ u < k then L u ++ [x] else L u
def dO (L : Int -> List Su) (x : Su) : Int -> List Su := fun u => if x.b / 16777216 <= u /\ u <= (x.b + (x.s - 1)) / 16777216 then L u ++ [x] else L u
theorem qV (L : Int -> List Su) (x : Su) (u0 : Int) : eI L x u0 u0 = L := by funext u; unfold eI; rw [if_neg (by omega)]
theorem tN (L : Int -> List Su) (x : Su) {u0 k : Int} (h : u0 <= k) : tL (eI L x u0 k) k x = eI L x u0 (k + 1) := by
 funext u; unfold tL eI
 by_cases e : u = k
 . subst e; rw [if_pos rfl, if_neg (by omega), if_pos (by omega)]
 . rw [if_neg e]
   by_cases g : u0 <= u /\ u < k
   . rw [if_pos g, if_pos (by omega)]
   . rw [if_neg g, if_neg (by omega)]
theorem wZ (L : Int -> List Su) (x : Su) : eI L x (x.b / 16777216) ((x.b + (x.s - 1)) / 16777216 + 1) = dO L x := by
 funext u; unfold eI dO
 by_cases g : x.b / 16777216 <= u /\ u <= (x.b + (x.s - 1)) / 16777216
 . rw [if_pos g, if_pos (by omega)]
 . rw [if_neg g, if_neg (by omega)]
structure nW (W : World) (bm : Nat) (R : List (Int × Int)) (ks : List Int) (pv : Int -> Value) (Lp : Int -> List Su) (x : Su) (u0 k : Int) (ab : Nat) (ks' : List Int) (pv' : Int -> Value) (wr : World) : Prop where
 pg : pU wr bm ks' pv' (eI Lp x u0 k)
 kl : (ks'.length : Int) <= 256 * R.length + (k - u0)
 news : ∀ u, u ∈ ks' -> ∀ j, (pv' u).ownBlock = some j -> (∃ v, v ∈ ks /\ (pv v).ownBlock = some j) \/ W.heap.size <= j
 off : aD (fun j => j = bm \/ ∃ v, v ∈ ks /\ (pv v).ownBlock = some j) W wr
 at_ : wr.heap[ab]? = some (.cells #[.int .u32 k] 305 (0, 0))
theorem xS {W wr wc : World} {bm : Nat} {R : List (Int × Int)} {ks ks' : List Int} {pv pv' : Int -> Value} {Lp : Int -> List Su} {x : Su} {u0 k : Int} {ab : Nat} (h : nW W bm R ks pv Lp x u0 k ab ks' pv' wr) (h0 : u0 <= k) (hs : jB bm ks' pv' (eI Lp x u0 k) k x wr wc) :
 ∃ pv'', nW W bm R ks pv Lp x u0 (k + 1) wc.heap.size (nD ks' k) pv'' (wc.alloc (.cells #[.int .u32 (k + 1)] 305)) := by
 obtain ⟨v', hp, ho, hat⟩ := hs
 have hrow : ∀ j, (cZ ks' pv' k).ownBlock = some j -> (∃ v, v ∈ ks /\ (pv v).ownBlock = some j) \/ W.heap.size <= j := by
  intro j hj
  unfold cZ at hj
  by_cases hu : k ∈ ks'
  . rw [if_pos hu] at hj; exact h.news k hu j hj
  . rw [if_neg hu] at hj; cases hj
 have hoff : aD (fun j => j = bm \/ ∃ v, v ∈ ks /\ (pv v).ownBlock = some j) W wc := h.off.next ho fun i hi hx => by
  rcases hx with hx | hx
  . exact .inl hx
  . rcases hrow i hx with g | g
    . exact .inr g
    . omega
 rw [tN Lp x h0] at hp
 refine ⟨pE pv' k v', ⟨hp.kept (aJ wc _ hp.map.lt) fun u hu j hj => aJ wc _ (hp.lt hu hj), ?_, ?_, hoff.trans (aD.ofAlloc _ _), aF wc _⟩⟩
 . have := wJ ks' k; have := h.kl; omega
 . intro u hu j hj
   unfold pE at hj
   by_cases e : u = k
   . rw [if_pos e] at hj
     rcases hat with g | ⟨j', g, hj'⟩
     . exact hrow j (g ▸ hj)
     . rw [hj] at g; have := Option.some.inj g; have := h.off.size; right; omega
   . rw [if_neg e] at hj
     exact h.news u ((eC.1 hu).resolve_left e) j hj
def rO (w : World) : Value -> Int
 | .pointer (some a) => match w.cell? a with | some (.int _ n) => n | _ => 0
 | _ => 0
theorem oI {w : World} {b : Nat} {k : IntKind} {n : Int} (h : w.cell? ⟨b, 0, none⟩ = some (.int k n)) : rO w (.pointer (some ⟨b, 0, none⟩)) = n := by unfold rO; simp [h]
theorem aC5 (b s : Int) (xt : TypeId) (xv : Value) : ∀ u ∈ [Value.int .u32 b, Value.int .u32 s, Value.iface xt xv], u.oneCell' = true := by
 intro u hu; simp at hu; rcases hu with rfl | rfl | rfl <;> rfl
def nX : Prop := ∀ (R : List (Int × Int)) (g cap : Nat) (w : World), w.ownsRow 0 180 2 (.slice (some ⟨g, 0, none⟩) R.length cap) R.length (R.flatMap aR) -> R.length < 4611686018427387904 ->
 Calls prog 218 #[.slice (some ⟨g, 0, none⟩) R.length cap, .func (.func 219) #[] #[]] w
  fun e w' => e = .returned (.tuple #[]) /\ ∃ R' : List (Int × Int), R'.Perm R /\ R'.Pairwise (fun x y => x.1 <= y.1) /\ w'.ownsRow 0 180 2 (.slice (some ⟨g, 0, none⟩) R.length cap) R.length (R'.flatMap aR) /\ aD (· = g) w w'
def aAx (p bm : Nat) (rv : Value) (R : List (Int × Int)) (ks : List Int) (pv : Int -> Value) (Lp : Int -> List Su) (x : Su) (w w' : World) : Prop :=
 ∃ (rv' : Value) (R' : List (Int × Int)) (ks' : List Int) (pv' : Int -> Value), bQ w' p bm rv' R' ks' pv' (dO Lp x) /\ R'.Perm (R ++ [(x.b, x.s)]) /\ R'.Pairwise (fun x y => x.1 <= y.1) /\ aD (bJ p bm rv ks pv) w w' /\
  (∀ k, bJ p bm rv' ks' pv' k -> bJ p bm rv ks pv k \/ w.heap.size <= k)
structure aAw (p bm : Nat) (rv : Value) (ks : List Int) (pv : Int -> Value) : Prop where
 pm : p ≠ bm
 rp : ∀ k, rv.ownBlock = some k -> k ≠ p
 rm : ∀ k, rv.ownBlock = some k -> k ≠ bm
 sp : ∀ u, u ∈ ks -> ∀ k, (pv u).ownBlock = some k -> k ≠ p
 rs : ∀ u, u ∈ ks -> ∀ k, (pv u).ownBlock = some k -> rv.ownBlock ≠ some k
theorem bQ.apart {w : World} {p bm : Nat} {rv : Value} {R : List (Int × Int)} {ks : List Int} {pv : Int -> Value} {Lp : Int -> List Su} (h : bQ w p bm rv R ks pv Lp) : aAw p bm rv ks pv := by
 obtain ⟨_, _, hm, _⟩ := h.map
 refine ⟨?_, fun k hk => ?_, fun k hk => ?_, fun u hu k hk => ?_, fun u hu k hk hk2 => ?_⟩
 . rintro rfl; rw [h.cell] at hm; cases hm
 . rintro rfl; obtain ⟨c, hc⟩ := cR h.regs hk; rw [h.cell] at hc; simp at hc
 . rintro rfl; obtain ⟨c, hc⟩ := cR h.regs hk; rw [hm] at hc; cases hc
 . rintro rfl; obtain ⟨c, hc⟩ := cR (h.rows u hu) hk; rw [h.cell] at hc; simp at hc
 . obtain ⟨c, hc⟩ := cR h.regs hk2; obtain ⟨d, hd⟩ := cR (h.rows u hu) hk; rw [hc] at hd; simp at hd
theorem aAd {p bm g3 cap3 : Nat} {rv : Value} {R R' : List (Int × Int)} {ks ks' : List Int} {pv pv' : Int -> Value} {Lp : Int -> List Su} {x : Su} {u1 : Int} {ab : Nat} {w W V Y X : World} (hB : bQ w p bm rv R ks pv Lp) (hbW : Below w.heap.size w W) (hP : nW W bm R ks pv Lp x (x.b / 16777216) (u1 + 1) ab ks' pv' V)
 (hu1 : (x.b + (x.s - 1)) / 16777216 = u1) (hx : x.wf)
 (hP3 : Y.heap[p]? = some (.cells #[.slice (some ⟨g3, 0, none⟩) (R.length + 1) cap3, .map (some bm), .int .i64 0] 265 (0, 0))) (hO3 : aD (fun k => k = p \/ rv.ownBlock = some k) V Y) (hat3 : rv.ownBlock = some g3 \/ V.heap.size <= g3)
 (hperm : R'.Perm (R ++ [(x.b, x.s)])) (hsorted : R'.Pairwise (fun x y => x.1 <= y.1)) (hown5 : X.ownsRow 0 180 2 (.slice (some ⟨g3, 0, none⟩) (R.length + 1) cap3) (R.length + 1) (R'.flatMap aR)) (hO5 : aD (· = g3) Y X) : aAx p bm rv R ks pv Lp x w X := by
 have hA := hB.apart
 have hRl : R'.length = R.length + 1 := by have := hperm.length_eq; simpa using this
 have hwW := hbW.size
 have hWV := hP.off.size
 have hbml := hB.map.lt
 have hpl := hB.ltp
 have hgp : g3 ≠ p := by
  rcases hat3 with h | h
  . exact hA.rp g3 h
  . omega
 have hgm : g3 ≠ bm := by
  rcases hat3 with h | h
  . exact hA.rm g3 h
  . omega
 obtain ⟨x0, ⟨x1, x1'⟩, x2⟩ := hx
 have hrl : ∀ k, rv.ownBlock = some k -> k < w.heap.size := fun k hk => (hB.regs.lt k hk).2
 have hpk : ∀ u, u ∈ ks' -> ∀ k, (pv' u).ownBlock = some k -> k ≠ p /\ rv.ownBlock ≠ some k /\ k ≠ g3 := by
  intro u hu k hk
  have hkV := hP.pg.lt hu hk
  rcases hP.news u hu k hk with ⟨v, hv, hj⟩ | hj
  . refine ⟨hA.sp v hv k hj, hA.rs v hv k hj, ?_⟩
    rintro rfl
    rcases hat3 with h | h
    . exact hA.rs v hv _ hj h
    . omega
  . refine ⟨by omega, fun e => by have := hrl k e; omega, ?_⟩
    rintro rfl
    rcases hat3 with h | h
    . have := hrl _ h; omega
    . omega
 have hPX : pU X bm ks' pv' (eI Lp x (x.b / 16777216) (u1 + 1)) := by
  refine hP.pg.kept ?_ fun u hu k hk => ?_
  . have hm := hP.pg.map.lt
    rw [hO5.block bm (Nat.lt_of_lt_of_le hm hO3.size) (fun h => hgm h.symm), hO3.block bm hm (fun h => h.elim (fun h => hA.pm h.symm) (fun h => hA.rm bm h rfl))]
  . obtain ⟨h1, h2, h3⟩ := hpk u hu k hk
    have hkV := hP.pg.lt hu hk
    rw [hO5.block k (Nat.lt_of_lt_of_le hkV hO3.size) h3, hO3.block k hkV (fun h => h.elim h1 h2)]
 rw [<- hu1, wZ] at hPX
 have hle : ∀ u, (dO Lp x u).length <= (Lp u).length + 1 := fun u => by unfold dO; split <;> simp
 refine ⟨.slice (some ⟨g3, 0, none⟩) (R.length + 1) cap3, R', ks', pv', ⟨hO5.at hP3 (fun h => hgp h.symm), by rw [hRl]; exact hown5, hPX.map, hPX.rows, hPX.nos, hPX.disj, fun u y hy => ?_, ?_, fun u => ?_⟩, hperm, hsorted, ?_, ?_⟩
 . unfold dO at hy
   split at hy
   . rcases List.mem_append.1 hy with h | h
     . exact hB.wf u y h
     . simp at h; subst h; exact ⟨x0, ⟨x1, x1'⟩, x2⟩
   . exact hB.wf u y hy
 . have := hP.kl; rw [hRl]; omega
 . have := hle u; have := hB.ll u; rw [hRl]; omega
 . have o1 : aD (bJ p bm rv ks pv) w W := aD.ofBelow hbW
   have o2 := o1.andThen hP.off (U := bJ p bm rv ks pv) (fun _ _ h => h) (fun i _ h => h.elim (fun h => .inr (.inl h)) (fun ⟨v, hv, h⟩ => .inr (.inr (.inr ⟨v, hv, h⟩))))
   have o3 := o2.andThen hO3 (U := bJ p bm rv ks pv) (fun _ _ h => h) (fun i _ h => h.elim (fun h => .inl h) (fun h => .inr (.inr (.inl h))))
   refine o3.andThen hO5 (fun _ _ h => h) (fun i hi h => ?_)
   subst h
   rcases hat3 with h | h
   . exact .inr (.inr (.inl h))
   . omega
 . intro k hk
   rcases hk with h | h | h | ⟨u, hu, h⟩
   . exact .inl (.inl h)
   . exact .inl (.inr (.inl h))
   . have : k = g3 := by simp [Value.ownBlock] at h; exact h.symm
     subst this
     rcases hat3 with h | h
     . exact .inl (.inr (.inr (.inl h)))
     . right; omega
   . rcases hP.news u hu k h with ⟨v, hv, hj⟩ | hj
     . exact .inl (.inr (.inr (.inr ⟨v, hv, hj⟩)))
     . right; omega
end Go.Proofs.YtaohacadochldaaGreat.B
