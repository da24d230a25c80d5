/- A part of the proof of a law of layer 12: ap. -/
import Derived.Test.YtaohacadochldaaGreatZCan
import Derived.Test.YtaohacadochldaaGreatZCao
import Derived.Deep.CutRange
set_option linter.unusedVariables false
set_option linter.unusedSimpArgs false
set_option maxHeartbeats 12800000
set_option maxRecDepth 100000
namespace Go.Proofs.YtaohacadochldaaGreat.B
open Go.Proofs.Tryz
open Go.ChangeShapes Go.WideShapes Go.RowKit Go.Sort
theorem aG3 : WideMaps.KeyLaw prog 305 := deep_law_laid aGL (m := 2) (by omega) (of_decide_eq_true (by kernel_rfl)) (by kernel_rfl) (by rw [underlying305])
theorem aGA : (prog.info? 269).map (fun i => (i.zero, i.size, i.bytes)) = some (some (.agg #[.int .u32 0, .int .u32 0, .nilIface]), 3, 24) := by kernel_rfl
theorem aIh : (prog.info? 180).map (fun i => (i.zero, i.size, i.bytes)) = some (some (.agg #[.int .u32 0, .int .u32 0]), 2, 8) := by kernel_rfl
theorem aE5 (u : World) : (zeroValue 307).run prog u = .ok (.slice none 0 0) u := by kernel_rfl
theorem aLL {w : World} {B : Nat} {c0 c1 c2 : Value} {t : TypeId} (h : w.heap[B]? = some (.cells #[c0, c1, c2] t (0, 0))) : ∀ j u, [c0, c1, c2][j]? = some u -> w.cell? ((⟨B, 0, none⟩ : Addr).add j) = some u := by
 intro j u hj
 have h1 := aA h j
 match j, hj with
 | 0, hj => simp at hj; subst hj; simpa [Addr.add] using h1
 | 1, hj => simp at hj; subst hj; simpa [Addr.add] using h1
 | 2, hj => simp at hj; subst hj; simpa [Addr.add] using h1
 | j + 3, hj => simp at hj
theorem aLK {w : World} {B : Nat} {c0 c1 : Value} {t : TypeId} (h : w.heap[B]? = some (.cells #[c0, c1] t (0, 0))) : ∀ j u, [c0, c1][j]? = some u -> w.cell? ((⟨B, 0, none⟩ : Addr).add j) = some u := by
 intro j u hj
 have h1 := aA h j
 match j, hj with
 | 0, hj => simp at hj; subst hj; simpa [Addr.add] using h1
 | 1, hj => simp at hj; subst hj; simpa [Addr.add] using h1
 | j + 2, hj => simp at hj
def aB5 (p bm : Nat) (rv : Value) (R : List (Int × Int)) (b s : Int) (w w' : World) : Prop :=
 ∃ (g cap : Nat), w'.heap[p]? = some (.cells #[.slice (some ⟨g, 0, none⟩) (R.length + 1) cap, .map (some bm), .int .i64 0] 265 (0, 0)) /\ w'.ownsRow 0 180 2 (.slice (some ⟨g, 0, none⟩) (R.length + 1) cap) (R.length + 1) (R.flatMap bQ ++ bQ (b, s)) /\
  aF (fun k => k = p \/ rv.ownBlock = some k) w w' /\ (rv.ownBlock = some g \/ w.heap.size <= g)
theorem aI9 {p bm : Nat} {rv : Value} {R : List (Int × Int)} {b s : Int} {g cap : Nat} {w w1 w3 : World} {C : Obj} (hp : w.heap[p]? = some (.cells #[rv, .map (some bm), .int .i64 0] 265 (0, 0))) (hrp : ∀ k, rv.ownBlock = some k -> k ≠ p)
 (hw1 : w1 = (w.alloc C).drew) (h13 : w1.grownBy w3 rv.ownBlock) (hown : w3.ownsRow 0 180 2 (.slice (some ⟨g, 0, none⟩) (R.length + 1) cap) (R.length + 1) (R.flatMap bQ ++ bQ (b, s)))
 (hat : some g = rv.ownBlock \/ some g = some w1.heap.size) : aB5 p bm rv R b s w (w3.setCell ⟨p, 0, none⟩ (.slice (some ⟨g, 0, none⟩) (R.length + 1) cap)) := by
 have hlp := lt_of_block hp
 have ho1 : aF (fun k => k = p \/ rv.ownBlock = some k) w w1 := by subst hw1; exact ⟨rfl, rfl, rfl, (aF.ofAlloc (S := fun k => k = p \/ rv.ownBlock = some k) w C).size, fun k hk hs => (aF.ofAlloc (S := fun k => k = p \/ rv.ownBlock = some k) w C).block k hk hs⟩
 have hsz : w1.heap.size = w.heap.size + 1 := by subst hw1; show (w.alloc C).heap.size = _; simp
 have hp1 : w1.heap[p]? = w.heap[p]? := by subst hw1; exact aX w C hlp
 have hp3 : w3.heap[p]? = some (.cells #[rv, .map (some bm), .int .i64 0] 265 (0, 0)) := ((h13.block p (by omega) (fun e => hrp p e.symm rfl)).trans hp1).trans hp
 have hg : g ≠ p := by
  rcases hat with h | h
  . exact hrp g h.symm
  . simp at h; omega
 refine ⟨g, cap, by simpa using aR hp3 0 (.slice (some ⟨g, 0, none⟩) (R.length + 1) cap), iO hown fun k hk => ?_, (ho1.andThen (T := fun k => rv.ownBlock = some k) (aF.ofGrown h13 fun k e => e) (fun _ _ h => h) (fun _ _ h => .inr h)).andThen (T := (· = p)) (aF.ofSetCell _ _ _ rfl) (fun _ _ h => h) (fun _ _ h => .inl h), ?_⟩
 . have : k = g := by simp [Value.ownBlock] at hk; exact hk.symm
   subst this
   exact Below.heap_setCell _ _ _ _ hg
 . rcases hat with h | h
   . exact .inl h.symm
   . simp at h; right; omega
theorem aHL {p bm : Nat} {rv v' : Value} {R : List (Int × Int)} {b s : Int} {w w3 : World} {C : Obj} (hp : w.heap[p]? = some (.cells #[rv, .map (some bm), .int .i64 0] 265 (0, 0))) (hrp : ∀ k, rv.ownBlock = some k -> k ≠ p)
 (h13 : ((w.alloc C).drew).grownBy w3 rv.ownBlock) (hown : w3.ownsRow 0 180 2 v' (R.length + 1) (R.flatMap bQ ++ [.int .u32 b, .int .u32 s]))
 (hat : v'.ownBlock = rv.ownBlock \/ v'.ownBlock = some (w.alloc C).drew.heap.size) :
 ∃ g cap, v' = .slice (some ⟨g, 0, none⟩) (R.length + 1) cap /\ w3.cell? ⟨p, 0, none⟩ = some rv /\ w3.frozen? ⟨p, 0, none⟩ = false /\ aB5 p bm rv R b s w (w3.setCell ⟨p, 0, none⟩ (.slice (some ⟨g, 0, none⟩) (R.length + 1) cap)) := by
 rcases gH hown with ⟨_, h⟩ | ⟨g, cap, rfl, _⟩
 . omega
 . have hlp := lt_of_block hp
   have hp3 : w3.heap[p]? = some (.cells #[rv, .map (some bm), .int .i64 0] 265 (0, 0)) := ((h13.block p (by show p < (w.alloc C).heap.size; simp; omega) (fun e => hrp p e.symm rfl)).trans (aX w C hlp)).trans hp
   exact ⟨g, cap, rfl, by simpa using aA hp3 0, aK hp3 0, aI9 hp hrp rfl h13 hown hat⟩
theorem aP2 (b s : Int) : ∀ u ∈ [Value.int .u32 b, Value.int .u32 s], u.oneCell' = true := by
 intro u hu; simp at hu; rcases hu with rfl | rfl <;> rfl
def lR (L : Int -> List Su) (x : Su) (u0 k : Int) : Int -> List Su := fun u => if u0 <= u /\ u < k then L u ++ [x] else L u
def kG (L : Int -> List Su) (x : Su) : Int -> List Su := fun u => if x.b / 16777216 <= u /\ u <= (x.b + (x.s - 1)) / 16777216 then L u ++ [x] else L u
theorem aCj (L : Int -> List Su) (x : Su) (u0 : Int) : lR L x u0 u0 = L := by funext u; unfold lR; rw [if_neg (by omega)]
theorem aEg (L : Int -> List Su) (x : Su) {u0 k : Int} (h : u0 <= k) : aEf (lR L x u0 k) k x = lR L x u0 (k + 1) := by
 funext u; unfold aEf lR
 by_cases e : u = k
 . subst e; rw [if_pos rfl, if_neg (by omega), if_pos (by omega)]
 . rw [if_neg e]
   by_cases g : u0 <= u /\ u < k
   . rw [if_pos g, if_pos (by omega)]
   . rw [if_neg g, if_neg (by omega)]
theorem aGe (L : Int -> List Su) (x : Su) : lR L x (x.b / 16777216) ((x.b + (x.s - 1)) / 16777216 + 1) = kG L x := by
 funext u; unfold lR kG
 by_cases g : x.b / 16777216 <= u /\ u <= (x.b + (x.s - 1)) / 16777216
 . rw [if_pos g, if_pos (by omega)]
 . rw [if_neg g, if_neg (by omega)]
structure aAm (W : World) (bm : Nat) (R : List (Int × Int)) (ks : List Int) (pv : Int -> Value) (Lp : Int -> List Su) (x : Su) (u0 k : Int) (ab : Nat) (ks' : List Int) (pv' : Int -> Value) (wr : World) : Prop where
 pg : Pgs wr bm ks' pv' (lR Lp x u0 k)
 kl : (ks'.length : Int) <= 256 * R.length + (k - u0)
 news : ∀ u, u ∈ ks' -> ∀ j, (pv' u).ownBlock = some j -> (∃ v, v ∈ ks /\ (pv v).ownBlock = some j) \/ W.heap.size <= j
 off : aF (fun j => j = bm \/ ∃ v, v ∈ ks /\ (pv v).ownBlock = some j) W wr
 at_ : wr.heap[ab]? = some (.cells #[.int .u32 k] 305 (0, 0))
theorem aG9 {W wr wc : World} {bm : Nat} {R : List (Int × Int)} {ks ks' : List Int} {pv pv' : Int -> Value} {Lp : Int -> List Su} {x : Su} {u0 k : Int} {ab : Nat} (h : aAm W bm R ks pv Lp x u0 k ab ks' pv' wr) (h0 : u0 <= k) (hs : tF bm ks' pv' (lR Lp x u0 k) k x wr wc) :
 ∃ pv'', aAm W bm R ks pv Lp x u0 (k + 1) wc.heap.size (aAA ks' k) pv'' (wc.alloc (.cells #[.int .u32 (k + 1)] 305)) := by
 obtain ⟨v', hp, ho, hat⟩ := hs
 have hrow : ∀ j, (jH ks' pv' k).ownBlock = some j -> (∃ v, v ∈ ks /\ (pv v).ownBlock = some j) \/ W.heap.size <= j := by
  intro j hj
  unfold jH at hj
  by_cases hu : k ∈ ks'
  . rw [if_pos hu] at hj; exact h.news k hu j hj
  . rw [if_neg hu] at hj; cases hj
 have hoff : aF (fun j => j = bm \/ ∃ v, v ∈ ks /\ (pv v).ownBlock = some j) W wc := h.off.next ho fun i hi hx => by
  rcases hx with hx | hx
  . exact .inl hx
  . rcases hrow i hx with g | g
    . exact .inr g
    . omega
 rw [aEg Lp x h0] at hp
 refine ⟨aBS pv' k v', ⟨hp.kept (aX wc _ hp.map.lt) fun u hu j hj => aX wc _ (hp.lt hu hj), ?_, ?_, hoff.trans (aF.ofAlloc _ _), aD wc _⟩⟩
 . have := aGH ks' k; have := h.kl; omega
 . intro u hu j hj
   unfold aBS at hj
   by_cases e : u = k
   . rw [if_pos e] at hj
     rcases hat with g | ⟨j', g, hj'⟩
     . exact hrow j (g ▸ hj)
     . rw [hj] at g; have := Option.some.inj g; have := h.off.size; right; omega
   . rw [if_neg e] at hj
     exact h.news u ((lD.1 hu).resolve_left e) j hj
def aDR (w : World) : Value -> Int
 | .pointer (some a) => match w.cell? a with | some (.int _ n) => n | _ => 0
 | _ => 0
theorem aAx {w : World} {b : Nat} {k : IntKind} {n : Int} (h : w.cell? ⟨b, 0, none⟩ = some (.int k n)) : aDR w (.pointer (some ⟨b, 0, none⟩)) = n := by unfold aDR; simp [h]
theorem aOY (b s : Int) (xt : TypeId) (xv : Value) : ∀ u ∈ [Value.int .u32 b, Value.int .u32 s, Value.iface xt xv], u.oneCell' = true := by
 intro u hu; simp at hu; rcases hu with rfl | rfl | rfl <;> rfl
def aAn : Prop := ∀ (R : List (Int × Int)) (g cap : Nat) (w : World), w.ownsRow 0 180 2 (.slice (some ⟨g, 0, none⟩) R.length cap) R.length (R.flatMap bQ) -> R.length < 4611686018427387904 ->
 Calls prog 218 #[.slice (some ⟨g, 0, none⟩) R.length cap, .func (.func 219) #[] #[]] w
  fun e w' => e = .returned (.tuple #[]) /\ ∃ R' : List (Int × Int), R'.Perm R /\ R'.Pairwise (fun x y => x.1 <= y.1) /\ w'.ownsRow 0 180 2 (.slice (some ⟨g, 0, none⟩) R.length cap) R.length (R'.flatMap bQ) /\ aF (· = g) w w'
def aK0 (p bm : Nat) (rv : Value) (R : List (Int × Int)) (ks : List Int) (pv : Int -> Value) (Lp : Int -> List Su) (x : Su) (w w' : World) : Prop :=
 ∃ (rv' : Value) (R' : List (Int × Int)) (ks' : List Int) (pv' : Int -> Value), eZ w' p bm rv' R' ks' pv' (kG Lp x) /\ R'.Perm (R ++ [(x.b, x.s)]) /\ R'.Pairwise (fun x y => x.1 <= y.1) /\ aF (eK p bm rv ks pv) w w' /\
  (∀ k, eK p bm rv' ks' pv' k -> eK p bm rv ks pv k \/ w.heap.size <= k)
structure aKz (p bm : Nat) (rv : Value) (ks : List Int) (pv : Int -> Value) : Prop where
 pm : p ≠ bm
 rp : ∀ k, rv.ownBlock = some k -> k ≠ p
 rm : ∀ k, rv.ownBlock = some k -> k ≠ bm
 sp : ∀ u, u ∈ ks -> ∀ k, (pv u).ownBlock = some k -> k ≠ p
 rs : ∀ u, u ∈ ks -> ∀ k, (pv u).ownBlock = some k -> rv.ownBlock ≠ some k
theorem eZ.apart {w : World} {p bm : Nat} {rv : Value} {R : List (Int × Int)} {ks : List Int} {pv : Int -> Value} {Lp : Int -> List Su} (h : eZ w p bm rv R ks pv Lp) : aKz p bm rv ks pv := by
 obtain ⟨_, _, hm, _⟩ := h.map
 refine ⟨?_, fun k hk => ?_, fun k hk => ?_, fun u hu k hk => ?_, fun u hu k hk hk2 => ?_⟩
 . rintro rfl; rw [h.cell] at hm; cases hm
 . rintro rfl; obtain ⟨c, hc⟩ := gB h.regs hk; rw [h.cell] at hc; simp at hc
 . rintro rfl; obtain ⟨c, hc⟩ := gB h.regs hk; rw [hm] at hc; cases hc
 . rintro rfl; obtain ⟨c, hc⟩ := gB (h.rows u hu) hk; rw [h.cell] at hc; simp at hc
 . obtain ⟨c, hc⟩ := gB h.regs hk2; obtain ⟨d, hd⟩ := gB (h.rows u hu) hk; rw [hc] at hd; simp at hd
theorem aJd {p bm g3 cap3 : Nat} {rv : Value} {R R' : List (Int × Int)} {ks ks' : List Int} {pv pv' : Int -> Value} {Lp : Int -> List Su} {x : Su} {u1 : Int} {ab : Nat} {w W V Y X : World} (hB : eZ w p bm rv R ks pv Lp) (hbW : Below w.heap.size w W) (hP : aAm W bm R ks pv Lp x (x.b / 16777216) (u1 + 1) ab ks' pv' V)
 (hu1 : (x.b + (x.s - 1)) / 16777216 = u1) (hx : x.wf)
 (hP3 : Y.heap[p]? = some (.cells #[.slice (some ⟨g3, 0, none⟩) (R.length + 1) cap3, .map (some bm), .int .i64 0] 265 (0, 0))) (hO3 : aF (fun k => k = p \/ rv.ownBlock = some k) V Y) (hat3 : rv.ownBlock = some g3 \/ V.heap.size <= g3)
 (hperm : R'.Perm (R ++ [(x.b, x.s)])) (hsorted : R'.Pairwise (fun x y => x.1 <= y.1)) (hown5 : X.ownsRow 0 180 2 (.slice (some ⟨g3, 0, none⟩) (R.length + 1) cap3) (R.length + 1) (R'.flatMap bQ)) (hO5 : aF (· = g3) Y X) : aK0 p bm rv R ks pv Lp x w X := by
 have hA := hB.apart
 have hRl : R'.length = R.length + 1 := by have := hperm.length_eq; simpa using this
 have hwW := hbW.size
 have hWV := hP.off.size
 have hbml := hB.map.lt
 have hpl := hB.ltp
 have hgp : g3 ≠ p := by
  rcases hat3 with h | h
  . exact hA.rp g3 h
  . omega
 have hgm : g3 ≠ bm := by
  rcases hat3 with h | h
  . exact hA.rm g3 h
  . omega
 obtain ⟨x0, ⟨x1, x1'⟩, x2⟩ := hx
 have hrl : ∀ k, rv.ownBlock = some k -> k < w.heap.size := fun k hk => (hB.regs.lt k hk).2
 have hpk : ∀ u, u ∈ ks' -> ∀ k, (pv' u).ownBlock = some k -> k ≠ p /\ rv.ownBlock ≠ some k /\ k ≠ g3 := by
  intro u hu k hk
  have hkV := hP.pg.lt hu hk
  rcases hP.news u hu k hk with ⟨v, hv, hj⟩ | hj
  . refine ⟨hA.sp v hv k hj, hA.rs v hv k hj, ?_⟩
    rintro rfl
    rcases hat3 with h | h
    . exact hA.rs v hv _ hj h
    . omega
  . refine ⟨by omega, fun e => by have := hrl k e; omega, ?_⟩
    rintro rfl
    rcases hat3 with h | h
    . have := hrl _ h; omega
    . omega
 have hPX : Pgs X bm ks' pv' (lR Lp x (x.b / 16777216) (u1 + 1)) := by
  refine hP.pg.kept ?_ fun u hu k hk => ?_
  . have hm := hP.pg.map.lt
    rw [hO5.block bm (Nat.lt_of_lt_of_le hm hO3.size) (fun h => hgm h.symm), hO3.block bm hm (fun h => h.elim (fun h => hA.pm h.symm) (fun h => hA.rm bm h rfl))]
  . obtain ⟨h1, h2, h3⟩ := hpk u hu k hk
    have hkV := hP.pg.lt hu hk
    rw [hO5.block k (Nat.lt_of_lt_of_le hkV hO3.size) h3, hO3.block k hkV (fun h => h.elim h1 h2)]
 rw [<- hu1, aGe] at hPX
 have hle : ∀ u, (kG Lp x u).length <= (Lp u).length + 1 := fun u => by unfold kG; split <;> simp
 refine ⟨.slice (some ⟨g3, 0, none⟩) (R.length + 1) cap3, R', ks', pv', ⟨hO5.at hP3 (fun h => hgp h.symm), by rw [hRl]; exact hown5, hPX.map, hPX.rows, hPX.nos, hPX.disj, fun u y hy => ?_, ?_, fun u => ?_⟩, hperm, hsorted, ?_, ?_⟩
 . unfold kG at hy
   split at hy
   . rcases List.mem_append.1 hy with h | h
     . exact hB.wf u y h
     . simp at h; subst h; exact ⟨x0, ⟨x1, x1'⟩, x2⟩
   . exact hB.wf u y hy
 . have := hP.kl; rw [hRl]; omega
 . have := hle u; have := hB.ll u; rw [hRl]; omega
 . have o1 : aF (eK p bm rv ks pv) w W := aF.ofBelow hbW
   have o2 := o1.andThen hP.off (U := eK p bm rv ks pv) (fun _ _ h => h) (fun i _ h => h.elim (fun h => .inr (.inl h)) (fun ⟨v, hv, h⟩ => .inr (.inr (.inr ⟨v, hv, h⟩))))
   have o3 := o2.andThen hO3 (U := eK p bm rv ks pv) (fun _ _ h => h) (fun i _ h => h.elim (fun h => .inl h) (fun h => .inr (.inr (.inl h))))
   refine o3.andThen hO5 (fun _ _ h => h) (fun i hi h => ?_)
   subst h
   rcases hat3 with h | h
   . exact .inr (.inr (.inl h))
   . omega
 . intro k hk
   rcases hk with h | h | h | ⟨u, hu, h⟩
   . exact .inl (.inl h)
   . exact .inl (.inr (.inl h))
   . have : k = g3 := by simp [Value.ownBlock] at h; exact h.symm
     subst this
     rcases hat3 with h | h
     . exact .inl (.inr (.inr (.inl h)))
     . right; omega
   . rcases hP.news u hu k h with ⟨v, hv, hj⟩ | hj
     . exact .inl (.inr (.inr (.inr ⟨v, hv, hj⟩)))
     . right; omega
abbrev tCl : TypeId := 166
abbrev tLn : TypeId := 261
abbrev tBd : TypeId := 121
abbrev tEv : TypeId := 156
abbrev tDv : TypeId := 117
abbrev tBu : TypeId := 265
abbrev tRg : TypeId := 180
abbrev tSt : TypeId := 269
structure Bp where
 b : Nat
 pc : Nat
 mc : Nat
 pb : Nat
 gb : Nat
 qb : Nat -> Nat
 pd : Nat
 ps : Nat
 pr : Nat
 pl : Nat
 bp : Nat
 bm : Nat
 rv : Value
 R : List (Int × Int)
 ks : List Int
 pv : Int -> Value
 n : Nat
 c : Nat
 div : Int
 ev : Value
def zN (x : Int × Int) : List Value := [.int .u64 x.1, .int .i64 x.2]
def gN (w : World) (T : TypeId) (v : Value) (es : List (Int × Int)) : Prop := w.ownsRow 0 T 2 v es.length (es.flatMap zN)
def Bp.cl (B : Bp) : List Value := [kC B.pc, kC B.pb, kC B.pd, kC B.ps, kC B.pr, kC B.pl, .int .i64 B.n, .int .i64 B.c, .int .u32 B.div, kC B.bp, B.ev]
def Bp.dvs (B : Bp) (k : Nat) : Prop := k = B.pc \/ k = B.pb \/ k = B.gb \/ own B.c B.qb k \/ k = B.pd \/ k = B.ps \/ k = B.pr \/ k = B.pl
def Bp.own (B : Bp) (k : Nat) : Prop := k = B.b \/ B.dvs k \/ B.ev.ownBlock = some k
def Bp.all (B : Bp) (k : Nat) : Prop := B.own k \/ k = B.mc \/ eK B.bp B.bm B.rv B.ks B.pv k
def kd (w : World) (k : Nat) : Nat := match w.heap[k]? with
 | some (.cells _ t _) => t + 1
 | _ => 0
theorem bT {w : World} {k : Nat} {cs : Array Value} {t : TypeId} {f : Nat × Nat} (h : w.heap[k]? = some (.cells cs t f)) : kd w k = t + 1 := by unfold kd; rw [h]
theorem pE {w : World} {k : Nat} {κ : Type} {ek : κ -> Value} {ok : κ -> Prop} {M : List (κ × Value)} (h : eA w ek ok k M) : kd w k = 0 := by obtain ⟨_, _, hb, _⟩ := h; unfold kd; rw [hb]
theorem aIl {w w' : World} {k : Nat} (h : w'.heap[k]? = w.heap[k]?) : kd w' k = kd w k := by unfold kd; rw [h]
def aFo (m : Nat) : Bool := m == tCl + 1 || m == tBk + 1 || m == tRm + 1 || m == tC + 1 || m == tD + 1 || m == tS + 1 || m == dK + 1 || m == tLn + 1
def aLC (m : Nat) : Bool := m == 0 || m == tBu + 1 || m == tRg + 1 || m == tSt + 1
theorem aIX {m : Nat} (h : aFo m = true) : aLC m = false := by
 unfold aFo at h
 simp only [Bool.or_eq_true, beq_iff_eq] at h
 rcases h with ((((((h | h) | h) | h) | h) | h) | h) | h <;> rw [h] <;> decide
structure bB (w : World) (B : Bp) (x : Bx) (h : Int) : Prop where
 c : dY w B.pc B.mc x.ti B.n x.D x.S
 b : cK w B.pb B.gb B.c B.qb x.tm
 d : eC w B.pd x.wd
 s : eN w B.ps tS x.rs
 r : dB w B.pr dK x.rk
 l : lK w B.pl h x.msk
section
variable {w w' : World} {B : Bp} {x : Bx} {h : Int}
theorem bB.kd (H : bB w B x h) {k : Nat} (hk : B.dvs k) : aFo (kd w k) = true := by
 rcases hk with rfl | rfl | rfl | ⟨i, hi, rfl⟩ | rfl | rfl | rfl | rfl
 . rw [bT H.c.cell]; decide
 . rw [bT H.b.cell]; decide
 . rw [bT H.b.rm.room]; decide
 . rw [bT (H.b.rm.tms i hi)]; decide
 . rw [bT H.d]; decide
 . rw [bT H.s]; decide
 . rw [bT H.r]; decide
 . rw [bT H.l]; decide
theorem bB.lt (H : bB w B x h) {k : Nat} (hk : B.dvs k) : k < w.heap.size := by
 rcases hk with rfl | rfl | rfl | ⟨i, hi, rfl⟩ | rfl | rfl | rfl | rfl
 . exact H.c.ltp
 . exact H.b.ltp
 . exact H.b.rm.lt
 . exact H.b.rm.ltq hi
 . exact H.d.lt
 . exact H.s.lt
 . exact H.r.lt
 . exact H.l.lt
theorem bB.ltm (H : bB w B x h) : B.mc < w.heap.size := H.c.ltm
theorem bB.no (H : bB w B x h) {k : Nat} {cs : Array Value} {t : TypeId} {f : Nat × Nat} (hk : w.heap[k]? = some (.cells cs t f)) (ht : aFo (t + 1) = false) : ¬ B.dvs k := fun hd => by
 have := H.kd hd; rw [bT hk, ht] at this; cases this
theorem bB.noMc (H : bB w B x h) : ¬ B.dvs B.mc := fun hd => by
 have := H.kd hd; rw [pE H.c.map] at this; revert this; decide
theorem bB.kept (H : bB w B x h) (hk : ∀ k, B.dvs k -> w'.heap[k]? = w.heap[k]?) (hm : w'.heap[B.mc]? = w.heap[B.mc]?) : bB w' B x h :=
 ⟨H.c.kept (hk _ (.inl rfl)) hm,
  ⟨(hk _ (.inr (.inl rfl))).trans H.b.cell, ⟨(hk _ (.inr (.inr (.inl rfl)))).trans H.b.rm.room, fun i hi => (hk _ (.inr (.inr (.inr (.inl ⟨i, hi, rfl⟩))))).trans (H.b.rm.tms i hi), H.b.rm.ok, H.b.rm.one, H.b.rm.n8⟩⟩,
  (hk _ (.inr (.inr (.inr (.inr (.inl rfl)))))).trans H.d, (hk _ (.inr (.inr (.inr (.inr (.inr (.inl rfl))))))).trans H.s,
  (hk _ (.inr (.inr (.inr (.inr (.inr (.inr (.inl rfl)))))))).trans H.r, (hk _ (.inr (.inr (.inr (.inr (.inr (.inr (.inr rfl)))))))).trans H.l⟩
theorem bB.below (H : bB w B x h) (hb : Below w.heap.size w w') : bB w' B x h := H.kept (fun k hk => hb.block k (H.lt hk)) (hb.block _ H.ltm)
theorem bB.off {S : Nat -> Prop} (H : bB w B x h) (ho : aF S w w') (hs : ∀ k, B.dvs k -> ¬ S k) (hm : ¬ S B.mc) : bB w' B x h := H.kept (fun k hk => ho.block k (H.lt hk) (hs k hk)) (ho.block _ H.ltm hm)
theorem bB.like {y : Bx} (H : bB w B x h) (l : Bx.like B.c x y) : bB w B y h :=
 ⟨l.ti ▸ l.D ▸ l.S ▸ H.c, H.b.congr l.tm, l.wd ▸ H.d, l.rs ▸ H.s, l.rk ▸ H.r, l.msk ▸ H.l⟩
theorem bB.turnC (H : bB w B x h) {t : Int} {D S : Nat -> Int} (a : dY w' B.pc B.mc t B.n D S) (ho : aF (· = B.pc) w w') : bB w' B { x with ti := t, D := D, S := S } h :=
 ⟨a, H.b.off ho (aI H.b.cell H.c.cell rfl) (aI H.b.rm.room H.c.cell rfl) (fun i hi => aI (H.b.rm.tms i hi) H.c.cell rfl), H.d.off ho (aI H.d H.c.cell rfl), H.s.off ho (aI H.s H.c.cell rfl), H.r.off ho (aI H.r H.c.cell rfl), ho.at H.l (aI H.l H.c.cell rfl)⟩
theorem rX (H : cK w B.pb B.gb B.c B.qb x.tm) {k : Nat} (hk : Go.Proofs.YtaohacadochldaaGreat.B.kd w k ≠ tC + 1) : ¬ Go.Proofs.YtaohacadochldaaGreat.B.own B.c B.qb k := fun ⟨i, hi, e⟩ => hk (by rw [e]; exact bT (H.rm.tms i hi))
theorem bB.turnB (H : bB w B x h) {t : Nat -> Tm} (a : cK w' B.pb B.gb B.c B.qb t) (ho : aF (Go.Proofs.YtaohacadochldaaGreat.B.own B.c B.qb) w w') : bB w' B { x with tm := t } h :=
 ⟨H.c.off ho (rX H.b (by rw [bT H.c.cell]; decide)) (rX H.b (by rw [pE H.c.map]; decide)), a, H.d.off ho (rX H.b (by rw [bT H.d]; decide)), H.s.off ho (rX H.b (by rw [bT H.s]; decide)), H.r.off ho (rX H.b (by rw [bT H.r]; decide)), ho.at H.l (rX H.b (by rw [bT H.l]; decide))⟩
theorem yJ (H : dY w B.pc B.mc x.ti B.n x.D x.S) {k : Nat} {cs : Array Value} {t : TypeId} {f : Nat × Nat} (hk : w.heap[k]? = some (.cells cs t f)) : B.mc ≠ k := fun e => by
 have h1 := pE H.map; rw [e, bT hk] at h1; cases h1
theorem bB.turnD (H : bB w B x h) {t : Wd} (a : eC w' B.pd t) (ho : aF (· = B.pd) w w') : bB w' B { x with wd := t } h :=
 ⟨H.c.off ho (aI H.c.cell H.d rfl) (yJ H.c H.d), H.b.off ho (aI H.b.cell H.d rfl) (aI H.b.rm.room H.d rfl) (fun i hi => aI (H.b.rm.tms i hi) H.d rfl), a, H.s.off ho (aI H.s H.d rfl), H.r.off ho (aI H.r H.d rfl), ho.at H.l (aI H.l H.d rfl)⟩
theorem bB.turnS (H : bB w B x h) {t : Rs} (a : eN w' B.ps tS t) (ho : aF (· = B.ps) w w') : bB w' B { x with rs := t } h :=
 ⟨H.c.off ho (aI H.c.cell H.s rfl) (yJ H.c H.s), H.b.off ho (aI H.b.cell H.s rfl) (aI H.b.rm.room H.s rfl) (fun i hi => aI (H.b.rm.tms i hi) H.s rfl), H.d.off ho (aI H.d H.s rfl), a, H.r.off ho (aI H.r H.s rfl), ho.at H.l (aI H.l H.s rfl)⟩
theorem bB.turnR (H : bB w B x h) {t : Rk} (a : dB w' B.pr dK t) (ho : aF (· = B.pr) w w') : bB w' B { x with rk := t } h :=
 ⟨H.c.off ho (aI H.c.cell H.r rfl) (yJ H.c H.r), H.b.off ho (aI H.b.cell H.r rfl) (aI H.b.rm.room H.r rfl) (fun i hi => aI (H.b.rm.tms i hi) H.r rfl), H.d.off ho (aI H.d H.r rfl), H.s.off ho (aI H.s H.r rfl), a, ho.at H.l (aI H.l H.r rfl)⟩
theorem bB.turnL (H : bB w B x h) {h' m' : Int} (a : lK w' B.pl h' m') (ho : aF (· = B.pl) w w') : bB w' B { x with msk := m' } h' :=
 ⟨H.c.off ho (aI H.c.cell H.l rfl) (yJ H.c H.l), H.b.off ho (aI H.b.cell H.l rfl) (aI H.b.rm.room H.l rfl) (fun i hi => aI (H.b.rm.tms i hi) H.l rfl), H.d.off ho (aI H.d H.l rfl), H.s.off ho (aI H.s H.l rfl), H.r.off ho (aI H.r H.l rfl), a⟩
theorem aGt (ho : aF (· = B.pc) w w') : aF B.dvs w w' := ho.mono fun k _ e => .inl e
theorem aGs (ho : aF (Go.Proofs.YtaohacadochldaaGreat.B.own B.c B.qb) w w') : aF B.dvs w w' := ho.mono fun k _ e => .inr (.inr (.inr (.inl e)))
theorem aIt (ho : aF (· = B.pd) w w') : aF B.dvs w w' := ho.mono fun k _ e => .inr (.inr (.inr (.inr (.inl e))))
theorem offS (ho : aF (· = B.ps) w w') : aF B.dvs w w' := ho.mono fun k _ e => .inr (.inr (.inr (.inr (.inr (.inl e)))))
theorem aGu (ho : aF (· = B.pr) w w') : aF B.dvs w w' := ho.mono fun k _ e => .inr (.inr (.inr (.inr (.inr (.inr (.inl e))))))
theorem uS (ho : aF (· = B.pl) w w') : aF B.dvs w w' := ho.mono fun k _ e => .inr (.inr (.inr (.inr (.inr (.inr (.inr e))))))
end
theorem nY (x : Int × Int) : (zN x).length = 2 := rfl
theorem aCU (w : World) (T : TypeId) : gN w T (.slice none 0 0) [] := World.ownsRow_nil w 0 T 2
theorem gN.keep {w w' : World} {T : TypeId} {v : Value} {es : List (Int × Int)} (h : gN w T v es) (hk : ∀ g, v.ownBlock = some g -> w'.heap[g]? = w.heap[g]?) : gN w' T v es := iO h hk
theorem gN.lt {w : World} {T : TypeId} {v : Value} {es : List (Int × Int)} (h : gN w T v es) {k : Nat} (hk : v.ownBlock = some k) : k < w.heap.size := (World.ownsRow.lt h k hk).2
theorem gN.kd {w : World} {T : TypeId} {v : Value} {es : List (Int × Int)} (h : gN w T v es) {k : Nat} (hk : v.ownBlock = some k) : kd w k = T + 1 := by obtain ⟨cur, hc⟩ := gB h hk; exact bT hc
theorem gN.below {w w' : World} {T : TypeId} {v : Value} {es : List (Int × Int)} (h : gN w T v es) (hb : Below w.heap.size w w') : gN w' T v es := h.keep fun g hg => hb.block g (h.lt hg)
def vC (B : Bp) : Su := ⟨33554432, 49152, 110, kC B.pc⟩
def kI (B : Bp) : Su := ⟨268500992, 256, 111, kC B.pb⟩
def lH (B : Bp) : Su := ⟨268566528, 20, 112, kC B.pd⟩
def nA (B : Bp) : Su := ⟨268632064, 16, 113, kC B.ps⟩
def qJ (B : Bp) : Su := ⟨268697600, 36, 114, kC B.pr⟩
def vD (B : Bp) : Su := ⟨268763136, 12, 115, kC B.pl⟩
def sH (B : Bp) : Int -> List Su := kG (kG (kG (kG (kG (kG (fun _ => []) (vC B)) (kI B)) (lH B)) (nA B)) (qJ B)) (vD B)
structure aZ (w : World) (B : Bp) (x : Bx) : Prop where
 cell : w.heap[B.b]? = some (.cells B.cl.toArray tBd (0, 0))
 dv : bB w B x (wires B.n B.c x)
 bus : eZ w B.bp B.bm B.rv B.R B.ks B.pv (sH B)
 ev : gN w tEv B.ev x.es
 ok : x.ok B.n B.c
 still : x.still
theorem eZ.kd {w : World} {p bm : Nat} {rv : Value} {R : List (Int × Int)} {ks : List Int} {pv : Int -> Value} {Lp : Int -> List Su} (h : eZ w p bm rv R ks pv Lp) {k : Nat} (hk : eK p bm rv ks pv k) : aLC (kd w k) = true := by
 rcases hk with rfl | rfl | hk | ⟨u, hu, hk⟩
 . rw [bT h.cell]; decide
 . rw [pE h.map]; decide
 . obtain ⟨cur, hc⟩ := gB h.regs hk; rw [bT hc]; decide
 . obtain ⟨cur, hc⟩ := gB (h.rows u hu) hk; rw [bT hc]; decide
section
variable {w w' : World} {B : Bp} {x : Bx}
theorem wI {P : Prop} (h : P := by
 rcases hk with (rfl | hk | hk) | rfl | hk
 . exact lt_of_block H.cell
 . exact H.dv.lt hk
 . exact H.ev.lt hk
 . exact H.dv.ltm
 . exact H.bus.lt k hk
 ) : P := h
theorem aZ.lt (H : aZ w B x) {k : Nat} (hk : B.all k) : k < w.heap.size := by
 exact wI
theorem aZ.kept (H : aZ w B x) (hk : ∀ k, B.all k -> w'.heap[k]? = w.heap[k]?) : aZ w' B x :=
 ⟨(hk _ (.inl (.inl rfl))).trans H.cell, H.dv.kept (fun k h => hk k (.inl (.inr (.inl h)))) (hk _ (.inr (.inl rfl))), H.bus.kept fun k h => hk k (.inr (.inr h)), H.ev.keep fun g hg => hk g (.inl (.inr (.inr hg))), H.ok, H.still⟩
theorem aZ.below (H : aZ w B x) (hb : Below w.heap.size w w') : aZ w' B x := H.kept fun k hk => hb.block k (H.lt hk)
theorem aZ.off {S : Nat -> Prop} (H : aZ w B x) (ho : aF S w w') (hs : ∀ k, B.all k -> ¬ S k) : aZ w' B x := H.kept fun k hk => ho.block k (H.lt hk) (hs k hk)
theorem aZ.like {y : Bx} (H : aZ w B x) (l : Bx.like B.c x y) : aZ w B y :=
 ⟨H.cell, l.wires (n := B.n) ▸ H.dv.like l, H.bus, l.es ▸ H.ev, l.ok H.ok, l.still H.still⟩
theorem wQ {P : Prop} (h : P := by
 have hb := H.bus.kd hk
 rintro (rfl | hd | he)
 . rw [bT H.cell] at hb; revert hb; decide
 . rw [aIX (H.dv.kd hd)] at hb; cases hb
 . rw [H.ev.kd he] at hb; revert hb; decide
 ) : P := h
theorem aZ.busApart (H : aZ w B x) {k : Nat} (hk : eK B.bp B.bm B.rv B.ks B.pv k) : ¬ B.own k := by
 exact wQ
theorem wS {P : Prop} (h : P := by
 have hm := pE H.dv.c.map
 rintro (h | hd | he)
 . rw [h, bT H.cell] at hm; cases hm
 . exact H.dv.noMc hd
 . rw [H.ev.kd he] at hm; cases hm
 ) : P := h
theorem aZ.mcApart (H : aZ w B x) : ¬ B.own B.mc := by
 exact wS
theorem aZ.bApart (H : aZ w B x) : ¬ B.dvs B.b := H.dv.no H.cell (by decide)
theorem wL {P : Prop} (h : P := by
 have he := H.ev.kd hk
 refine ⟨fun hd => ?_, fun e => ?_⟩
 . have := H.dv.kd hd; rw [he] at this; revert this; decide
 . rw [e, bT H.cell] at he; revert he; decide
 ) : P := h
theorem aZ.evApart (H : aZ w B x) {k : Nat} (hk : B.ev.ownBlock = some k) : ¬ B.dvs k /\ k ≠ B.b := by
 exact wL
theorem aZ.turn {y : Bx} (H : aZ w B x) (D : bB w' B y (wires B.n B.c y)) (ho : aF B.dvs w w') (hes : y.es = x.es) (ok : y.ok B.n B.c) (st : y.still) : aZ w' B y :=
 ⟨ho.at H.cell H.bApart, D, H.bus.ofOff ho fun k hk hd => H.busApart hk (.inr (.inl hd)), hes ▸ H.ev.keep fun g hg => ho.block g (H.ev.lt hg) (H.evApart hg).1, ok, st⟩
end
end Go.Proofs.YtaohacadochldaaGreat.B
