/- A part of the proof of a law of layer 12: am. -/
import Derived.Test.YtealhichdbimlaaGreatZNak
import Derived.Test.YtealhichdbimlaaGreatZNal
import Derived.Deep.CutRange
set_option linter.unusedVariables false
set_option linter.unusedSimpArgs false
set_option maxHeartbeats 12800000
set_option maxRecDepth 100000
namespace Go.Proofs.YtealhichdbimlaaGreat.B
open Go.Proofs.Tryz
open Go.ChangeShapes Go.WideShapes Go.RowKit Go.Sort
def dU (L : Int -> List Su) (x : Su) (u0 k : Int) : Int -> List Su := fun u => if u0 <= u /\ u < k then L u ++ [x] else L u
def dC (L : Int -> List Su) (x : Su) : Int -> List Su := fun u => if x.b / 16777216 <= u /\ u <= (x.b + (x.s - 1)) / 16777216 then L u ++ [x] else L u
theorem mZ (L : Int -> List Su) (x : Su) (u0 : Int) : dU L x u0 u0 = L := by funext u; unfold dU; rw [if_neg (by omega)]
theorem pK (L : Int -> List Su) (x : Su) {u0 k : Int} (h : u0 <= k) : pJ (dU L x u0 k) k x = dU L x u0 (k + 1) := by
 funext u; unfold pJ dU
 by_cases e : u = k
 . subst e; rw [if_pos rfl, if_neg (by omega), if_pos (by omega)]
 . rw [if_neg e]
   by_cases g : u0 <= u /\ u < k
   . rw [if_pos g, if_pos (by omega)]
   . rw [if_neg g, if_neg (by omega)]
theorem sM (L : Int -> List Su) (x : Su) : dU L x (x.b / 16777216) ((x.b + (x.s - 1)) / 16777216 + 1) = dC L x := by
 funext u; unfold dU dC
 by_cases g : x.b / 16777216 <= u /\ u <= (x.b + (x.s - 1)) / 16777216
 . rw [if_pos g, if_pos (by omega)]
 . rw [if_neg g, if_neg (by omega)]
structure lB (W : World) (bm : Nat) (R : List (Int × Int)) (ks : List Int) (pv : Int -> Value) (Lp : Int -> List Su) (x : Su) (u0 k : Int) (ab : Nat) (ks' : List Int) (pv' : Int -> Value) (wr : World) : Prop where
 pg : mF wr bm ks' pv' (dU Lp x u0 k)
 kl : (ks'.length : Int) <= 256 * R.length + (k - u0)
 news : ∀ u, u ∈ ks' -> ∀ j, (pv' u).ownBlock = some j -> (∃ v, v ∈ ks /\ (pv v).ownBlock = some j) \/ W.heap.size <= j
 off : aE (fun j => j = bm \/ ∃ v, v ∈ ks /\ (pv v).ownBlock = some j) W wr
 at_ : wr.heap[ab]? = some (.cells #[.int .u32 k] 295 (0, 0))
theorem tI {W wr wc : World} {bm : Nat} {R : List (Int × Int)} {ks ks' : List Int} {pv pv' : Int -> Value} {Lp : Int -> List Su} {x : Su} {u0 k : Int} {ab : Nat} (h : lB W bm R ks pv Lp x u0 k ab ks' pv' wr) (h0 : u0 <= k) (hs : gO bm ks' pv' (dU Lp x u0 k) k x wr wc) :
 ∃ pv'', lB W bm R ks pv Lp x u0 (k + 1) wc.heap.size (kJ ks' k) pv'' (wc.alloc (.cells #[.int .u32 (k + 1)] 295)) := by
 obtain ⟨v', hp, ho, hat⟩ := hs
 have hrow : ∀ j, (cO ks' pv' k).ownBlock = some j -> (∃ v, v ∈ ks /\ (pv v).ownBlock = some j) \/ W.heap.size <= j := by
  intro j hj
  unfold cO at hj
  by_cases hu : k ∈ ks'
  . rw [if_pos hu] at hj; exact h.news k hu j hj
  . rw [if_neg hu] at hj; cases hj
 have hoff : aE (fun j => j = bm \/ ∃ v, v ∈ ks /\ (pv v).ownBlock = some j) W wc := h.off.next ho fun i hi hx => by
  rcases hx with hx | hx
  . exact .inl hx
  . rcases hrow i hx with g | g
    . exact .inr g
    . omega
 rw [pK Lp x h0] at hp
 refine ⟨lX pv' k v', ⟨hp.kept (aH wc _ hp.map.lt) fun u hu j hj => aH wc _ (hp.lt hu hj), ?_, ?_, hoff.trans (aE.ofAlloc _ _), aD wc _⟩⟩
 . have := rU ks' k; have := h.kl; omega
 . intro u hu j hj
   unfold lX at hj
   by_cases e : u = k
   . rw [if_pos e] at hj
     rcases hat with g | ⟨j', g, hj'⟩
     . exact hrow j (g ▸ hj)
     . rw [hj] at g; have := Option.some.inj g; have := h.off.size; right; omega
   . rw [if_neg e] at hj
     exact h.news u ((dO.1 hu).resolve_left e) j hj
def nT (w : World) : Value -> Int
 | .pointer (some a) => match w.cell? a with | some (.int _ n) => n | _ => 0
 | _ => 0
theorem lJ {w : World} {b : Nat} {k : IntKind} {n : Int} (h : w.cell? ⟨b, 0, none⟩ = some (.int k n)) : nT w (.pointer (some ⟨b, 0, none⟩)) = n := by unfold nT; simp [h]
theorem aBU (b s : Int) (xt : TypeId) (xv : Value) : ∀ u ∈ [Value.int .u32 b, Value.int .u32 s, Value.iface xt xv], u.oneCell' = true := by
 intro u hu; simp at hu; rcases hu with rfl | rfl | rfl <;> rfl
def lC : Prop := ∀ (R : List (Int × Int)) (g cap : Nat) (w : World), w.ownsRow 0 185 2 (.slice (some ⟨g, 0, none⟩) R.length cap) R.length (R.flatMap aM) -> R.length < 4611686018427387904 ->
 Calls prog 220 #[.slice (some ⟨g, 0, none⟩) R.length cap, .func (.func 221) #[] #[]] w
  fun e w' => e = .returned (.tuple #[]) /\ ∃ R' : List (Int × Int), R'.Perm R /\ R'.Pairwise (fun x y => x.1 <= y.1) /\ w'.ownsRow 0 185 2 (.slice (some ⟨g, 0, none⟩) R.length cap) R.length (R'.flatMap aM) /\ aE (· = g) w w'
def xN (p bm : Nat) (rv : Value) (R : List (Int × Int)) (ks : List Int) (pv : Int -> Value) (Lp : Int -> List Su) (x : Su) (w w' : World) : Prop :=
 ∃ (rv' : Value) (R' : List (Int × Int)) (ks' : List Int) (pv' : Int -> Value), bM w' p bm rv' R' ks' pv' (dC Lp x) /\ R'.Perm (R ++ [(x.b, x.s)]) /\ R'.Pairwise (fun x y => x.1 <= y.1) /\ aE (bF p bm rv ks pv) w w' /\
  (∀ k, bF p bm rv' ks' pv' k -> bF p bm rv ks pv k \/ w.heap.size <= k)
structure xM (p bm : Nat) (rv : Value) (ks : List Int) (pv : Int -> Value) : Prop where
 pm : p ≠ bm
 rp : ∀ k, rv.ownBlock = some k -> k ≠ p
 rm : ∀ k, rv.ownBlock = some k -> k ≠ bm
 sp : ∀ u, u ∈ ks -> ∀ k, (pv u).ownBlock = some k -> k ≠ p
 rs : ∀ u, u ∈ ks -> ∀ k, (pv u).ownBlock = some k -> rv.ownBlock ≠ some k
theorem bM.apart {w : World} {p bm : Nat} {rv : Value} {R : List (Int × Int)} {ks : List Int} {pv : Int -> Value} {Lp : Int -> List Su} (h : bM w p bm rv R ks pv Lp) : xM p bm rv ks pv := by
 obtain ⟨_, _, hm, _⟩ := h.map
 refine ⟨?_, fun k hk => ?_, fun k hk => ?_, fun u hu k hk => ?_, fun u hu k hk hk2 => ?_⟩
 . rintro rfl; rw [h.cell] at hm; cases hm
 . rintro rfl; obtain ⟨c, hc⟩ := cG h.regs hk; rw [h.cell] at hc; simp at hc
 . rintro rfl; obtain ⟨c, hc⟩ := cG h.regs hk; rw [hm] at hc; cases hc
 . rintro rfl; obtain ⟨c, hc⟩ := cG (h.rows u hu) hk; rw [h.cell] at hc; simp at hc
 . obtain ⟨c, hc⟩ := cG h.regs hk2; obtain ⟨d, hd⟩ := cG (h.rows u hu) hk; rw [hc] at hd; simp at hd
theorem wO {p bm g3 cap3 : Nat} {rv : Value} {R R' : List (Int × Int)} {ks ks' : List Int} {pv pv' : Int -> Value} {Lp : Int -> List Su} {x : Su} {u1 : Int} {ab : Nat} {w W V Y X : World} (hB : bM w p bm rv R ks pv Lp) (hbW : Below w.heap.size w W) (hP : lB W bm R ks pv Lp x (x.b / 16777216) (u1 + 1) ab ks' pv' V)
 (hu1 : (x.b + (x.s - 1)) / 16777216 = u1) (hx : x.wf)
 (hP3 : Y.heap[p]? = some (.cells #[.slice (some ⟨g3, 0, none⟩) (R.length + 1) cap3, .map (some bm), .int .i64 0] 253 (0, 0))) (hO3 : aE (fun k => k = p \/ rv.ownBlock = some k) V Y) (hat3 : rv.ownBlock = some g3 \/ V.heap.size <= g3)
 (hperm : R'.Perm (R ++ [(x.b, x.s)])) (hsorted : R'.Pairwise (fun x y => x.1 <= y.1)) (hown5 : X.ownsRow 0 185 2 (.slice (some ⟨g3, 0, none⟩) (R.length + 1) cap3) (R.length + 1) (R'.flatMap aM)) (hO5 : aE (· = g3) Y X) : xN p bm rv R ks pv Lp x w X := by
 have hA := hB.apart
 have hRl : R'.length = R.length + 1 := by have := hperm.length_eq; simpa using this
 have hwW := hbW.size
 have hWV := hP.off.size
 have hbml := hB.map.lt
 have hpl := hB.ltp
 have hgp : g3 ≠ p := by
  rcases hat3 with h | h
  . exact hA.rp g3 h
  . omega
 have hgm : g3 ≠ bm := by
  rcases hat3 with h | h
  . exact hA.rm g3 h
  . omega
 obtain ⟨x0, ⟨x1, x1'⟩, x2⟩ := hx
 have hrl : ∀ k, rv.ownBlock = some k -> k < w.heap.size := fun k hk => (hB.regs.lt k hk).2
 have hpk : ∀ u, u ∈ ks' -> ∀ k, (pv' u).ownBlock = some k -> k ≠ p /\ rv.ownBlock ≠ some k /\ k ≠ g3 := by
  intro u hu k hk
  have hkV := hP.pg.lt hu hk
  rcases hP.news u hu k hk with ⟨v, hv, hj⟩ | hj
  . refine ⟨hA.sp v hv k hj, hA.rs v hv k hj, ?_⟩
    rintro rfl
    rcases hat3 with h | h
    . exact hA.rs v hv _ hj h
    . omega
  . refine ⟨by omega, fun e => by have := hrl k e; omega, ?_⟩
    rintro rfl
    rcases hat3 with h | h
    . have := hrl _ h; omega
    . omega
 have hPX : mF X bm ks' pv' (dU Lp x (x.b / 16777216) (u1 + 1)) := by
  refine hP.pg.kept ?_ fun u hu k hk => ?_
  . have hm := hP.pg.map.lt
    rw [hO5.block bm (Nat.lt_of_lt_of_le hm hO3.size) (fun h => hgm h.symm), hO3.block bm hm (fun h => h.elim (fun h => hA.pm h.symm) (fun h => hA.rm bm h rfl))]
  . obtain ⟨h1, h2, h3⟩ := hpk u hu k hk
    have hkV := hP.pg.lt hu hk
    rw [hO5.block k (Nat.lt_of_lt_of_le hkV hO3.size) h3, hO3.block k hkV (fun h => h.elim h1 h2)]
 rw [<- hu1, sM] at hPX
 have hle : ∀ u, (dC Lp x u).length <= (Lp u).length + 1 := fun u => by unfold dC; split <;> simp
 refine ⟨.slice (some ⟨g3, 0, none⟩) (R.length + 1) cap3, R', ks', pv', ⟨hO5.at hP3 (fun h => hgp h.symm), by rw [hRl]; exact hown5, hPX.map, hPX.rows, hPX.nos, hPX.disj, fun u y hy => ?_, ?_, fun u => ?_⟩, hperm, hsorted, ?_, ?_⟩
 . unfold dC at hy
   split at hy
   . rcases List.mem_append.1 hy with h | h
     . exact hB.wf u y h
     . simp at h; subst h; exact ⟨x0, ⟨x1, x1'⟩, x2⟩
   . exact hB.wf u y hy
 . have := hP.kl; rw [hRl]; omega
 . have := hle u; have := hB.ll u; rw [hRl]; omega
 . have o1 : aE (bF p bm rv ks pv) w W := aE.ofBelow hbW
   have o2 := o1.andThen hP.off (U := bF p bm rv ks pv) (fun _ _ h => h) (fun i _ h => h.elim (fun h => .inr (.inl h)) (fun ⟨v, hv, h⟩ => .inr (.inr (.inr ⟨v, hv, h⟩))))
   have o3 := o2.andThen hO3 (U := bF p bm rv ks pv) (fun _ _ h => h) (fun i _ h => h.elim (fun h => .inl h) (fun h => .inr (.inr (.inl h))))
   refine o3.andThen hO5 (fun _ _ h => h) (fun i hi h => ?_)
   subst h
   rcases hat3 with h | h
   . exact .inr (.inr (.inl h))
   . omega
 . intro k hk
   rcases hk with h | h | h | ⟨u, hu, h⟩
   . exact .inl (.inl h)
   . exact .inl (.inr (.inl h))
   . have : k = g3 := by simp [Value.ownBlock] at h; exact h.symm
     subst this
     rcases hat3 with h | h
     . exact .inl (.inr (.inr (.inl h)))
     . right; omega
   . rcases hP.news u hu k h with ⟨v, hv, hj⟩ | hj
     . exact .inl (.inr (.inr (.inr ⟨v, hv, hj⟩)))
     . right; omega
abbrev tCl : TypeId := 168
abbrev tLn : TypeId := 237
abbrev uB : TypeId := 109
abbrev tEv : TypeId := 148
abbrev tDv : TypeId := 105
abbrev tBu : TypeId := 253
abbrev tRg : TypeId := 185
abbrev tSt : TypeId := 247
structure Bp where
 b : Nat
 pc : Nat
 mc : Nat
 pb : Nat
 gb : Nat
 qb : Nat -> Nat
 pd : Nat
 ps : Nat
 pr : Nat
 pl : Nat
 bp : Nat
 bm : Nat
 rv : Value
 R : List (Int × Int)
 ks : List Int
 pv : Int -> Value
 n : Nat
 c : Nat
 div : Int
 ev : Value
def evC (x : Int × Int) : List Value := [.int .u64 x.1, .int .i64 x.2]
def eR (w : World) (T : TypeId) (v : Value) (es : List (Int × Int)) : Prop := w.ownsRow 0 T 2 v es.length (es.flatMap evC)
def Bp.cl (B : Bp) : List Value := [eB B.pc, eB B.pb, eB B.pd, eB B.ps, eB B.pr, eB B.pl, .int .i64 B.n, .int .i64 B.c, .int .u32 B.div, eB B.bp, B.ev]
def Bp.dvs (B : Bp) (k : Nat) : Prop := k = B.pc \/ k = B.pb \/ k = B.gb \/ own B.c B.qb k \/ k = B.pd \/ k = B.ps \/ k = B.pr \/ k = B.pl
def Bp.own (B : Bp) (k : Nat) : Prop := k = B.b \/ B.dvs k \/ B.ev.ownBlock = some k
def Bp.all (B : Bp) (k : Nat) : Prop := B.own k \/ k = B.mc \/ bF B.bp B.bm B.rv B.ks B.pv k
def kd (w : World) (k : Nat) : Nat := match w.heap[k]? with
 | some (.cells _ t _) => t + 1
 | _ => 0
theorem aX {w : World} {k : Nat} {cs : Array Value} {t : TypeId} {f : Nat × Nat} (h : w.heap[k]? = some (.cells cs t f)) : kd w k = t + 1 := by unfold kd; rw [h]
theorem eZ {w : World} {k : Nat} {κ : Type} {ek : κ -> Value} {ok : κ -> Prop} {M : List (κ × Value)} (h : bD w ek ok k M) : kd w k = 0 := by obtain ⟨_, _, hb, _⟩ := h; unfold kd; rw [hb]
theorem vJ {w w' : World} {k : Nat} (h : w'.heap[k]? = w.heap[k]?) : kd w' k = kd w k := by unfold kd; rw [h]
def rE (m : Nat) : Bool := m == tCl + 1 || m == tBk + 1 || m == tRm + 1 || m == tC + 1 || m == tD + 1 || m == tS + 1 || m == dH + 1 || m == tLn + 1
def xW (m : Nat) : Bool := m == 0 || m == tBu + 1 || m == tRg + 1 || m == tSt + 1
theorem vE {m : Nat} (h : rE m = true) : xW m = false := by
 unfold rE at h
 simp only [Bool.or_eq_true, beq_iff_eq] at h
 rcases h with ((((((h | h) | h) | h) | h) | h) | h) | h <;> rw [h] <;> decide
structure aN (w : World) (B : Bp) (x : Bx) (h : Int) : Prop where
 c : bL w B.pc B.mc x.ti B.n x.D x.S
 b : bG w B.pb B.gb B.c B.qb x.tm
 d : bV w B.pd x.wd
 s : bP w B.ps tS x.rs
 r : bA w B.pr dH x.rk
 l : eT w B.pl h x.msk
section
variable {w w' : World} {B : Bp} {x : Bx} {h : Int}
theorem aN.kd (H : aN w B x h) {k : Nat} (hk : B.dvs k) : rE (kd w k) = true := by
 rcases hk with rfl | rfl | rfl | ⟨i, hi, rfl⟩ | rfl | rfl | rfl | rfl
 . rw [aX H.c.cell]; decide
 . rw [aX H.b.cell]; decide
 . rw [aX H.b.rm.room]; decide
 . rw [aX (H.b.rm.tms i hi)]; decide
 . rw [aX H.d]; decide
 . rw [aX H.s]; decide
 . rw [aX H.r]; decide
 . rw [aX H.l]; decide
theorem aN.lt (H : aN w B x h) {k : Nat} (hk : B.dvs k) : k < w.heap.size := by
 rcases hk with rfl | rfl | rfl | ⟨i, hi, rfl⟩ | rfl | rfl | rfl | rfl
 . exact H.c.ltp
 . exact H.b.ltp
 . exact H.b.rm.lt
 . exact H.b.rm.ltq hi
 . exact H.d.lt
 . exact H.s.lt
 . exact H.r.lt
 . exact H.l.lt
theorem aN.ltm (H : aN w B x h) : B.mc < w.heap.size := H.c.ltm
theorem aN.no (H : aN w B x h) {k : Nat} {cs : Array Value} {t : TypeId} {f : Nat × Nat} (hk : w.heap[k]? = some (.cells cs t f)) (ht : rE (t + 1) = false) : ¬ B.dvs k := fun hd => by
 have := H.kd hd; rw [aX hk, ht] at this; cases this
theorem aN.noMc (H : aN w B x h) : ¬ B.dvs B.mc := fun hd => by
 have := H.kd hd; rw [eZ H.c.map] at this; revert this; decide
theorem aN.kept (H : aN w B x h) (hk : ∀ k, B.dvs k -> w'.heap[k]? = w.heap[k]?) (hm : w'.heap[B.mc]? = w.heap[B.mc]?) : aN w' B x h :=
 ⟨H.c.kept (hk _ (.inl rfl)) hm,
  ⟨(hk _ (.inr (.inl rfl))).trans H.b.cell, ⟨(hk _ (.inr (.inr (.inl rfl)))).trans H.b.rm.room, fun i hi => (hk _ (.inr (.inr (.inr (.inl ⟨i, hi, rfl⟩))))).trans (H.b.rm.tms i hi), H.b.rm.ok, H.b.rm.one, H.b.rm.n8⟩⟩,
  (hk _ (.inr (.inr (.inr (.inr (.inl rfl)))))).trans H.d, (hk _ (.inr (.inr (.inr (.inr (.inr (.inl rfl))))))).trans H.s,
  (hk _ (.inr (.inr (.inr (.inr (.inr (.inr (.inl rfl)))))))).trans H.r, (hk _ (.inr (.inr (.inr (.inr (.inr (.inr (.inr rfl)))))))).trans H.l⟩
theorem aN.below (H : aN w B x h) (hb : Below w.heap.size w w') : aN w' B x h := H.kept (fun k hk => hb.block k (H.lt hk)) (hb.block _ H.ltm)
theorem aN.off {S : Nat -> Prop} (H : aN w B x h) (ho : aE S w w') (hs : ∀ k, B.dvs k -> ¬ S k) (hm : ¬ S B.mc) : aN w' B x h := H.kept (fun k hk => ho.block k (H.lt hk) (hs k hk)) (ho.block _ H.ltm hm)
theorem aN.like {y : Bx} (H : aN w B x h) (l : Bx.like B.c x y) : aN w B y h :=
 ⟨l.ti ▸ l.D ▸ l.S ▸ H.c, H.b.congr l.tm, l.wd ▸ H.d, l.rs ▸ H.s, l.rk ▸ H.r, l.msk ▸ H.l⟩
theorem aN.turnC (H : aN w B x h) {t : Int} {D S : Nat -> Int} (a : bL w' B.pc B.mc t B.n D S) (ho : aE (· = B.pc) w w') : aN w' B { x with ti := t, D := D, S := S } h :=
 ⟨a, H.b.off ho (aC H.b.cell H.c.cell rfl) (aC H.b.rm.room H.c.cell rfl) (fun i hi => aC (H.b.rm.tms i hi) H.c.cell rfl), H.d.off ho (aC H.d H.c.cell rfl), H.s.off ho (aC H.s H.c.cell rfl), H.r.off ho (aC H.r H.c.cell rfl), ho.at H.l (aC H.l H.c.cell rfl)⟩
theorem gF (H : bG w B.pb B.gb B.c B.qb x.tm) {k : Nat} (hk : Go.Proofs.YtealhichdbimlaaGreat.B.kd w k ≠ tC + 1) : ¬ Go.Proofs.YtealhichdbimlaaGreat.B.own B.c B.qb k := fun ⟨i, hi, e⟩ => hk (by rw [e]; exact aX (H.rm.tms i hi))
theorem aN.turnB (H : aN w B x h) {t : Nat -> Tm} (a : bG w' B.pb B.gb B.c B.qb t) (ho : aE (Go.Proofs.YtealhichdbimlaaGreat.B.own B.c B.qb) w w') : aN w' B { x with tm := t } h :=
 ⟨H.c.off ho (gF H.b (by rw [aX H.c.cell]; decide)) (gF H.b (by rw [eZ H.c.map]; decide)), a, H.d.off ho (gF H.b (by rw [aX H.d]; decide)), H.s.off ho (gF H.b (by rw [aX H.s]; decide)), H.r.off ho (gF H.b (by rw [aX H.r]; decide)), ho.at H.l (gF H.b (by rw [aX H.l]; decide))⟩
theorem lS (H : bL w B.pc B.mc x.ti B.n x.D x.S) {k : Nat} {cs : Array Value} {t : TypeId} {f : Nat × Nat} (hk : w.heap[k]? = some (.cells cs t f)) : B.mc ≠ k := fun e => by
 have h1 := eZ H.map; rw [e, aX hk] at h1; cases h1
theorem aN.turnD (H : aN w B x h) {t : Wd} (a : bV w' B.pd t) (ho : aE (· = B.pd) w w') : aN w' B { x with wd := t } h :=
 ⟨H.c.off ho (aC H.c.cell H.d rfl) (lS H.c H.d), H.b.off ho (aC H.b.cell H.d rfl) (aC H.b.rm.room H.d rfl) (fun i hi => aC (H.b.rm.tms i hi) H.d rfl), a, H.s.off ho (aC H.s H.d rfl), H.r.off ho (aC H.r H.d rfl), ho.at H.l (aC H.l H.d rfl)⟩
theorem aN.turnS (H : aN w B x h) {t : Rs} (a : bP w' B.ps tS t) (ho : aE (· = B.ps) w w') : aN w' B { x with rs := t } h :=
 ⟨H.c.off ho (aC H.c.cell H.s rfl) (lS H.c H.s), H.b.off ho (aC H.b.cell H.s rfl) (aC H.b.rm.room H.s rfl) (fun i hi => aC (H.b.rm.tms i hi) H.s rfl), H.d.off ho (aC H.d H.s rfl), a, H.r.off ho (aC H.r H.s rfl), ho.at H.l (aC H.l H.s rfl)⟩
theorem aN.turnR (H : aN w B x h) {t : Rk} (a : bA w' B.pr dH t) (ho : aE (· = B.pr) w w') : aN w' B { x with rk := t } h :=
 ⟨H.c.off ho (aC H.c.cell H.r rfl) (lS H.c H.r), H.b.off ho (aC H.b.cell H.r rfl) (aC H.b.rm.room H.r rfl) (fun i hi => aC (H.b.rm.tms i hi) H.r rfl), H.d.off ho (aC H.d H.r rfl), H.s.off ho (aC H.s H.r rfl), a, ho.at H.l (aC H.l H.r rfl)⟩
theorem aN.turnL (H : aN w B x h) {h' m' : Int} (a : eT w' B.pl h' m') (ho : aE (· = B.pl) w w') : aN w' B { x with msk := m' } h' :=
 ⟨H.c.off ho (aC H.c.cell H.l rfl) (lS H.c H.l), H.b.off ho (aC H.b.cell H.l rfl) (aC H.b.rm.room H.l rfl) (fun i hi => aC (H.b.rm.tms i hi) H.l rfl), H.d.off ho (aC H.d H.l rfl), H.s.off ho (aC H.s H.l rfl), H.r.off ho (aC H.r H.l rfl), a⟩
theorem vR (ho : aE (· = B.pc) w w') : aE B.dvs w w' := ho.mono fun k _ e => .inl e
theorem vQ (ho : aE (Go.Proofs.YtealhichdbimlaaGreat.B.own B.c B.qb) w w') : aE B.dvs w w' := ho.mono fun k _ e => .inr (.inr (.inr (.inl e)))
theorem zV (ho : aE (· = B.pd) w w') : aE B.dvs w w' := ho.mono fun k _ e => .inr (.inr (.inr (.inr (.inl e))))
theorem aCS (ho : aE (· = B.ps) w w') : aE B.dvs w w' := ho.mono fun k _ e => .inr (.inr (.inr (.inr (.inr (.inl e)))))
theorem vS (ho : aE (· = B.pr) w w') : aE B.dvs w w' := ho.mono fun k _ e => .inr (.inr (.inr (.inr (.inr (.inr (.inl e))))))
theorem iL (ho : aE (· = B.pl) w w') : aE B.dvs w w' := ho.mono fun k _ e => .inr (.inr (.inr (.inr (.inr (.inr (.inr e))))))
end
theorem yQ (w : World) (T : TypeId) : eR w T (.slice none 0 0) [] := World.ownsRow_nil w 0 T 2
theorem eR.keep {w w' : World} {T : TypeId} {v : Value} {es : List (Int × Int)} (h : eR w T v es) (hk : ∀ g, v.ownBlock = some g -> w'.heap[g]? = w.heap[g]?) : eR w' T v es := cF h hk
theorem eR.lt {w : World} {T : TypeId} {v : Value} {es : List (Int × Int)} (h : eR w T v es) {k : Nat} (hk : v.ownBlock = some k) : k < w.heap.size := (World.ownsRow.lt h k hk).2
theorem eR.kd {w : World} {T : TypeId} {v : Value} {es : List (Int × Int)} (h : eR w T v es) {k : Nat} (hk : v.ownBlock = some k) : kd w k = T + 1 := by obtain ⟨cur, hc⟩ := cG h hk; exact aX hc
theorem eR.below {w w' : World} {T : TypeId} {v : Value} {es : List (Int × Int)} (h : eR w T v es) (hb : Below w.heap.size w w') : eR w' T v es := h.keep fun g hg => hb.block g (h.lt hg)
def hJ (B : Bp) : Su := ⟨33554432, 49152, 98, eB B.pc⟩
def dG (B : Bp) : Su := ⟨268500992, 256, 99, eB B.pb⟩
def dP (B : Bp) : Su := ⟨268566528, 20, 100, eB B.pd⟩
def eG (B : Bp) : Su := ⟨268632064, 16, 101, eB B.ps⟩
def fP (B : Bp) : Su := ⟨268697600, 36, 102, eB B.pr⟩
def iA (B : Bp) : Su := ⟨268763136, 12, 103, eB B.pl⟩
def jY (B : Bp) : Int -> List Su := dC (dC (dC (dC (dC (dC (fun _ => []) (hJ B)) (dG B)) (dP B)) (eG B)) (fP B)) (iA B)
structure aU (w : World) (B : Bp) (x : Bx) : Prop where
 cell : w.heap[B.b]? = some (.cells B.cl.toArray uB (0, 0))
 dv : aN w B x (wires B.n B.c x)
 bus : bM w B.bp B.bm B.rv B.R B.ks B.pv (jY B)
 ev : eR w tEv B.ev x.es
 ok : x.ok B.n B.c
 still : x.still
theorem bM.kd {w : World} {p bm : Nat} {rv : Value} {R : List (Int × Int)} {ks : List Int} {pv : Int -> Value} {Lp : Int -> List Su} (h : bM w p bm rv R ks pv Lp) {k : Nat} (hk : bF p bm rv ks pv k) : xW (kd w k) = true := by
 rcases hk with rfl | rfl | hk | ⟨u, hu, hk⟩
 . rw [aX h.cell]; decide
 . rw [eZ h.map]; decide
 . obtain ⟨cur, hc⟩ := cG h.regs hk; rw [aX hc]; decide
 . obtain ⟨cur, hc⟩ := cG (h.rows u hu) hk; rw [aX hc]; decide
section
variable {w w' : World} {B : Bp} {x : Bx}
theorem iV {P : Prop} (h : P := by
 rcases hk with (rfl | hk | hk) | rfl | hk
 . exact lt_of_block H.cell
 . exact H.dv.lt hk
 . exact H.ev.lt hk
 . exact H.dv.ltm
 . exact H.bus.lt k hk
 ) : P := h
theorem aU.lt (H : aU w B x) {k : Nat} (hk : B.all k) : k < w.heap.size := by
 exact iV
theorem aU.kept (H : aU w B x) (hk : ∀ k, B.all k -> w'.heap[k]? = w.heap[k]?) : aU w' B x :=
 ⟨(hk _ (.inl (.inl rfl))).trans H.cell, H.dv.kept (fun k h => hk k (.inl (.inr (.inl h)))) (hk _ (.inr (.inl rfl))), H.bus.kept fun k h => hk k (.inr (.inr h)), H.ev.keep fun g hg => hk g (.inl (.inr (.inr hg))), H.ok, H.still⟩
theorem aU.below (H : aU w B x) (hb : Below w.heap.size w w') : aU w' B x := H.kept fun k hk => hb.block k (H.lt hk)
theorem aU.off {S : Nat -> Prop} (H : aU w B x) (ho : aE S w w') (hs : ∀ k, B.all k -> ¬ S k) : aU w' B x := H.kept fun k hk => ho.block k (H.lt hk) (hs k hk)
theorem aU.like {y : Bx} (H : aU w B x) (l : Bx.like B.c x y) : aU w B y :=
 ⟨H.cell, l.wires (n := B.n) ▸ H.dv.like l, H.bus, l.es ▸ H.ev, l.ok H.ok, l.still H.still⟩
theorem iZ {P : Prop} (h : P := by
 have hb := H.bus.kd hk
 rintro (rfl | hd | he)
 . rw [aX H.cell] at hb; revert hb; decide
 . rw [vE (H.dv.kd hd)] at hb; cases hb
 . rw [H.ev.kd he] at hb; revert hb; decide
 ) : P := h
theorem aU.busApart (H : aU w B x) {k : Nat} (hk : bF B.bp B.bm B.rv B.ks B.pv k) : ¬ B.own k := by
 exact iZ
theorem jA {P : Prop} (h : P := by
 have hm := eZ H.dv.c.map
 rintro (h | hd | he)
 . rw [h, aX H.cell] at hm; cases hm
 . exact H.dv.noMc hd
 . rw [H.ev.kd he] at hm; cases hm
 ) : P := h
theorem aU.mcApart (H : aU w B x) : ¬ B.own B.mc := by
 exact jA
theorem aU.bApart (H : aU w B x) : ¬ B.dvs B.b := H.dv.no H.cell (by decide)
theorem iX {P : Prop} (h : P := by
 have he := H.ev.kd hk
 refine ⟨fun hd => ?_, fun e => ?_⟩
 . have := H.dv.kd hd; rw [he] at this; revert this; decide
 . rw [e, aX H.cell] at he; revert he; decide
 ) : P := h
theorem aU.evApart (H : aU w B x) {k : Nat} (hk : B.ev.ownBlock = some k) : ¬ B.dvs k /\ k ≠ B.b := by
 exact iX
theorem aU.turn {y : Bx} (H : aU w B x) (D : aN w' B y (wires B.n B.c y)) (ho : aE B.dvs w w') (hes : y.es = x.es) (ok : y.ok B.n B.c) (st : y.still) : aU w' B y :=
 ⟨ho.at H.cell H.bApart, D, H.bus.ofOff ho fun k hk hd => H.busApart hk (.inr (.inl hd)), hes ▸ H.ev.keep fun g hg => ho.block g (H.ev.lt hg) (H.evApart hg).1, ok, st⟩
end
end Go.Proofs.YtealhichdbimlaaGreat.B
