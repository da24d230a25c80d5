/- A part of the proof of a law of layer 12: al. -/
import Derived.Test.YtaohacadochldaaGreatZNak
import Derived.Laws.AppendOwn
import Derived.Laws.OwnMore
import Derived.Defers
import Derived.Recover
set_option linter.unusedVariables false
set_option linter.unusedSimpArgs false
set_option maxHeartbeats 12800000
set_option maxRecDepth 100000
namespace Go.Proofs.YtaohacadochldaaGreat.B
open Go.Proofs.Tryz
open List renaming getElem?_toArray -> y0q, getElem?_cons_zero -> y1q, getElem?_cons_succ -> y2q
open Go.ChangeShapes Go.WideShapes Go.RowKit Go.Sort
def cE (b s a : Int) : Bool := decide (b <= a /\ a - b < s)
theorem aDz (b s a : Int) (w : World) (b0 : 0 <= b) (b1 : b < 4294967296) (s0 : 0 <= s) (s1 : s < 4294967296) (a0 : 0 <= a) (a1 : a < 4294967296) :
 Calls prog 221 #[.agg #[.int .u32 b, .int .u32 s], .int .u32 a] w fun e w' => e = .returned (.bool (cE b s a)) /\ Below w.heap.size w w' := by
 by_cases h1 : b <= a
 . by_cases h2 : a - b < s
   all_goals
    have h3 : decide (a - b < s) = cE b s a := by unfold cE; rw [decide_eq_decide]; omega
    have h4 := Hd h3
    clear h3
    go_enter func221, ntmps221
    go_wp2_with fail
    go_ret
    exact ⟨bM (by rw [<- h4.out]; simp; omega), aO (aT w) _⟩
 . have h3 : cE b s a = false := by unfold cE; simp; omega
   have h4 := Hd h3
   clear h3
   go_enter func221, ntmps221
   go_wp2_with fail
   go_ret
   exact ⟨bM h4.out.symm, aO (aT w) _⟩
theorem aCG (b s : Int) (w : World) (b0 : 0 <= b) (b1 : b < 4294967296) (s0 : 0 <= s) (s1 : s < 4294967296) :
 Calls prog 213 #[.agg #[.int .u32 b, .int .u32 s]] w fun e w' => e = .returned (.int .u64 (b + s)) /\ Below w.heap.size w w' := by
 go_enter func213, ntmps213
 go_wp2_with fail
 go_ret
 refine ⟨bV ?_, aO (aT w) _⟩
 rfl
theorem zB (b s a : Int) (v : Bool) (w : World) (b0 : 0 <= b) (b1 : b < 4294967296) (s0 : 0 <= s) (s1 : s < 4294967296) (a0 : 0 <= a) (a1 : a < 4294967296) (hv : cE b s a = v) :
 Calls prog 221 #[.agg #[.int .u32 b, .int .u32 s], .int .u32 a] w fun e w' => e = .returned (.bool v) /\ Below w.heap.size w w' := by
 rw [<- hv]; exact aDz b s a w b0 b1 s0 s1 a0 a1
def pA (b s c t : Int) : Bool := decide ((if b <= c then c else b) < (if b + s <= c + t then b + s else c + t))
theorem aDN (b s c t : Int) (w : World) (b0 : 0 <= b) (b1 : b < 4294967296) (s0 : 0 <= s) (s1 : s < 4294967296) (c0 : 0 <= c) (c1 : c < 4294967296) (t0 : 0 <= t) (t1 : t < 4294967296) :
 Calls prog 216 #[.agg #[.int .u32 b, .int .u32 s], .agg #[.int .u32 c, .int .u32 t]] w fun e w' => e = .returned (.bool (pA b s c t)) /\ Below w.heap.size w w' := by
 have hg := bP
 have hf := bF
 have hs0 : w.heap.size < w.heap.size + 1 + 1 := by omega
 have hs1 : w.heap.size + 1 < w.heap.size + 1 + 1 := by omega
 go_enter func216, ntmps216
 go_wp2_with fail
 refine wp_region_quiet_below (by kernel_rfl) (by kernel_rfl) ?_
 repeat (go_big_quiet_step (first
  | (go_at_call 213; exact Calls.regrown_of (aCG _ _ _ b0 b1 s0 s1))
  | (go_at_call 213; exact Calls.regrown_of (aCG _ _ _ c0 c1 t0 t1))))
 refine wpQuiet_nil ?_
 intro _ hw'
 obtain ⟨⟨dq, osq⟩, hw''⟩ := hw'
 subst hw''
 go_wp2_with fail
 all_goals
  go_ret
  refine ⟨bM ?_, trG (aO (aO (aT w) _) _) _ _⟩
  unfold pA
  rw [decide_eq_decide]
  clear hg hf
  (repeat' split) <;> omega
theorem iZ (a : Int) (w : World) (a0 : 0 <= a) (a1 : a < 4294967296) :
 Calls prog 217 #[.int .u32 a] w fun e w' => e = .returned (.agg #[.int .u32 (a / 16777216)]) /\ Below w.heap.size w w' := by
 go_enter func217, ntmps217
 go_wp2_with fail
 refine bodyPost_ret (v := .agg #[.int .u32 (a / 16777216)]) ?_ rfl ?_
 . simp [results, results217, go_sem]
 . exact ⟨rfl, aO (aT w) _⟩
theorem aCF (b s : Int) (w : World) (b0 : 0 <= b) (b1 : b < 4294967296) (s0 : 0 <= s) (s1 : s < 4294967296) (h1 : (b % 4 != 0) = false) (h2 : (s % 4 != 0) = false) (h3 : (s == 0) = false) (h4 : b + s <= 4294967296) :
 Calls prog 180 #[.agg #[.int .u32 b, .int .u32 s]] w fun e w' => e = .returned (.int .i64 0) /\ Below w.heap.size w w' := by
 go_enter func180, ntmps180
 go_wp2_with (go_at_call 213; refine (aCG _ _ _ b0 b1 s0 s1).mono ?_; rintro e w1 ⟨rfl, hb1⟩)
 go_ret
 exact ⟨rfl, tr (aO (aT w) _) hb1⟩
theorem aCH (a : Int) (w : World) :
 Calls prog 233 #[.int .u32 a] w fun e w' => e = .returned (.bool false) /\ w = w' := by
 go_enter func233, ntmps233
 go_wp2_with fail
 go_ret
 exact ⟨bM (by simp), rfl⟩
def iR (a b : Int) : Int := if a < b then -1 else if b < a then 1 else 0
theorem gZ {P : Prop} (h : P := by
 go_enter func220, ntmps220
 go_wp2_with (go_at_call 233; refine (aCH _ _).mono ?_; rintro e w1 ⟨rfl, rfl⟩)
 go_ret
 exact ⟨bV hx.out.symm, rfl⟩
 ) : P := h
theorem zA (a b : Int) (w : World) :
 Calls prog 220 #[.int .u32 a, .int .u32 b] w fun e w' => e = .returned (.int .i64 (iR a b)) /\ w = w' := by
 by_cases h1 : a < b
 . have hx := Hd (show iR a b = -1 by unfold iR; rw [if_pos h1])
   exact gZ
 . by_cases h2 : b < a
   . have hx := Hd (show iR a b = 1 by unfold iR; rw [if_neg h1, if_pos h2])
     exact gZ
   . have hx := Hd (show iR a b = 0 by unfold iR; rw [if_neg h1, if_neg h2])
     exact gZ
theorem gN {α : Type} (f : α -> List Value) (n : Nat) (h : ∀ x, (f x).length = n) : ∀ L : List α, (L.flatMap f).length = L.length * n
 | [] => by simp
 | x :: L => by rw [List.flatMap_cons, List.length_append, h, gN f n h L, List.length_cons, Nat.add_mul]; omega
theorem mU {α : Type} (f : α -> List Value) (n : Nat) (h : ∀ x, (f x).length = n) : ∀ (L : List α) (k j : Nat) (x : α), L[k]? = some x -> j < n -> (L.flatMap f)[k * n + j]? = (f x)[j]?
 | [], k, j, x, hx, _ => by simp at hx
 | y :: L, 0, j, x, hx, hj => by
   simp at hx; subst hx
   rw [List.flatMap_cons, Nat.zero_mul, Nat.zero_add, List.getElem?_append_left (by rw [h]; exact hj)]
 | y :: L, k + 1, j, x, hx, hj => by
   rw [List.flatMap_cons, List.getElem?_append_right (by rw [h, Nat.add_mul]; omega), h, show (k + 1) * n + j - n = k * n + j by rw [Nat.add_mul]; omega]
   exact mU f n h L k j x (by simpa using hx) hj
theorem gP {α : Type} {f : α -> List Value} {n : Nat} (h : ∀ x, (f x).length = n) {w : World} {base : Nat} {e : TypeId} {v : Value} {L : List α} (ho : w.ownsRow base e n v L.length (L.flatMap f)) {g cap : Nat} (hv : v = .slice (some ⟨g, 0, none⟩) L.length cap)
 {k : Nat} {x : α} (hx : L[k]? = some x) (j : Nat) (hj : j < n) : w.cell? ⟨g, k * n + j, none⟩ = (f x)[j]? := by
 subst hv
 have hk : k < L.length := (List.getElem?_eq_some_iff.1 hx).1
 have hb : k * n + j < L.length * n := by
  have : (k + 1) * n <= L.length * n := Nat.mul_le_mul_right n hk
  rw [Nat.add_mul] at this; omega
 rw [ho.cellAt _ hb]
 exact mU f n h L k j x hx hj
theorem eX {w : World} {base : Nat} {e : TypeId} {n m : Nat} {v : Value} {xs : List Value} (ho : w.ownsRow base e n v m xs) :
 (v = .slice none 0 0 /\ m = 0) \/ ∃ g cap, v = .slice (some ⟨g, 0, none⟩) m cap /\ m <= cap /\ cap <= maxLen /\ g < w.heap.size /\ ∃ cur, w.heap[g]? = some (.cells cur e (0, 0)) := by
 rcases ho.2 with h | ⟨g, cap, cur, h1, _, h2, h3, h4, _, _⟩
 . exact .inl h
 . exact .inr ⟨g, cap, h1, h3, h4, lt_of_block h2, cur, h2⟩
structure aCS where
 b : Int
 s : Int
 f : Nat
def aR (x : Int × Int) : List Value := [.int .u32 x.1, .int .u32 x.2]
def aCS.wf (x : aCS) : Prop := 0 <= x.b /\ 0 < x.s /\ x.b + x.s <= 16777216
theorem cQ {w w' : World} {base : Nat} {e : TypeId} {n m : Nat} {v : Value} {xs : List Value} (h : w.ownsRow base e n v m xs) (hk : ∀ g, v.ownBlock = some g -> w'.heap[g]? = w.heap[g]?) : w'.ownsRow base e n v m xs := by
 refine ⟨h.1, ?_⟩
 rcases h.2 with h2 | ⟨g, cap, cur, rfl, h3, h4, h5⟩
 . exact .inl h2
 . exact .inr ⟨g, cap, cur, rfl, h3, (hk g rfl).trans h4, h5⟩
theorem cR {w : World} {base : Nat} {e : TypeId} {n m : Nat} {v : Value} {xs : List Value} (h : w.ownsRow base e n v m xs) {k : Nat} (hk : v.ownBlock = some k) : ∃ cur, w.heap[k]? = some (.cells cur e (0, 0)) := by
 rcases h.2 with ⟨rfl, _⟩ | ⟨g, cap, cur, rfl, _, h3, _⟩
 . cases hk
 . cases hk; exact ⟨cur, h3⟩
def bC : Value := .agg #[.int .u32 0, .int .u32 0, .nilIface]
theorem pR (a : Int) (pv : Option Addr) (w : World) (a0 : 0 <= a) (h : (a % 4 != 0) = true) :
 Calls prog 183 #[.pointer pv, .int .u32 a] w fun e w' => e = .returned (.tuple #[bC, .int .i64 11]) /\ Below w.heap.size w w' := by
 go_enter func183, ntmps183
 go_wp2_with fail
 go_step3
 go_wp2_with fail
 rw [Exit.noGoto_ret]
 refine bodyPost_ret (v := .tuple #[bC, .int .i64 11]) ?_ rfl ?_
 . simp [results, results183, go_sem, bC]
 . exact ⟨rfl, aO (aT w) _⟩
theorem kC {w W : World} {tmps : Array Value} {c0 c1 c2 d0 d1 d2 : Value} {e : Int} (h4 : tmps[4]? = some (.pointer (some ⟨w.heap.size, 0, none⟩))) (h5 : tmps[5]? = some (.int .i64 e))
 (hX : W.heap[w.heap.size]? = some (.cells #[d0, d1, d2] 269 (0, 0))) (hb : Below w.heap.size w W) :
 bodyPost prog Tryz.f183 (fun e' w' => e' = .returned (.tuple #[.agg #[c0, c1, c2], .int .i64 e]) /\ Below w.heap.size w w') Exit.ret { tmps := tmps, defers := [] }
  (((W.setCell ⟨w.heap.size, 0, none⟩ c0).setCell ⟨w.heap.size, 1, none⟩ c1).setCell ⟨w.heap.size, 2, none⟩ c2) := by
 have hY := aK (aK (aK hX 0 c0) 1 c1) 2 c2
 have hbY : Below w.heap.size w (((W.setCell ⟨w.heap.size, 0, none⟩ c0).setCell ⟨w.heap.size, 1, none⟩ c1).setCell ⟨w.heap.size, 2, none⟩ c2) := ((hb.setCell (Nat.le_refl _) _).setCell (Nat.le_refl _) _).setCell (Nat.le_refl _) _
 generalize (((W.setCell ⟨w.heap.size, 0, none⟩ c0).setCell ⟨w.heap.size, 1, none⟩ c1).setCell ⟨w.heap.size, 2, none⟩ c2) = Y at hY hbY ⊢
 have hy0 := aA hY 0
 have hy1 := aA hY 1
 have hy2 := aA hY 2
 simp at hy0 hy1 hy2
 refine bodyPost_ret (v := .tuple #[.agg #[c0, c1, c2], .int .i64 e]) ?_ rfl ⟨rfl, hbY⟩
 simp [results, results183, go_sem, hy0, hy1, hy2, h4, h5]
def W2 (w : World) : World := (w.alloc (.cells #[.int .u32 0, .int .u32 0, .nilIface] 269)).alloc (.cells #[.int .u32 0, .int .u32 0, .nilIface] 269)
structure Su where
 b : Int
 s : Int
 ty : TypeId
 dv : Value
def Su.d (x : Su) : Value := .iface x.ty x.dv
def Su.cells (x : Su) : List Value := [.int .u32 x.b, .int .u32 x.s, x.d]
def Su.val (x : Su) : Value := .agg #[.int .u32 x.b, .int .u32 x.s, x.d]
def Su.wf (x : Su) : Prop := 0 <= x.b /\ (0 < x.s /\ x.s < 4294967296) /\ x.b + x.s <= 4294967296
def Su.on (x : Su) (u : Int) : Prop := x.b / 16777216 <= u /\ u <= (x.b + (x.s - 1)) / 16777216
def cZ (ks : List Int) (pv : Int -> Value) (u : Int) : Value := if u ∈ ks then pv u else .slice none 0 0
structure bQ (w : World) (p bm : Nat) (rv : Value) (R : List (Int × Int)) (ks : List Int) (pv : Int -> Value) (Lp : Int -> List Su) : Prop where
 cell : w.heap[p]? = some (.cells #[rv, .map (some bm), .int .i64 0] 265 (0, 0))
 regs : w.ownsRow 0 180 2 rv R.length (R.flatMap aR)
 map : bI w ek fP bm (ks.map fun u => (u, pv u))
 rows : ∀ u, u ∈ ks -> w.ownsRow 0 269 3 (pv u) (Lp u).length ((Lp u).flatMap Su.cells)
 nos : ∀ u, u ∉ ks -> Lp u = []
 disj : ∀ u, u ∈ ks -> ∀ v, v ∈ ks -> u ≠ v -> ∀ k, (pv u).ownBlock = some k -> (pv v).ownBlock ≠ some k
 wf : ∀ u, ∀ x ∈ Lp u, x.wf
 kl : ks.length <= 256 * R.length
 ll : ∀ u, (Lp u).length <= R.length
def bJ (p bm : Nat) (rv : Value) (ks : List Int) (pv : Int -> Value) (k : Nat) : Prop := k = p \/ k = bm \/ rv.ownBlock = some k \/ ∃ u, u ∈ ks /\ (pv u).ownBlock = some k
section
variable {w w' : World} {p bm : Nat} {rv : Value} {R : List (Int × Int)} {ks : List Int} {pv : Int -> Value} {Lp : Int -> List Su}
theorem bQ.ltp (h : bQ w p bm rv R ks pv Lp) : p < w.heap.size := lt_of_block h.cell
theorem bQ.kept (h : bQ w p bm rv R ks pv Lp) (hk : ∀ k, bJ p bm rv ks pv k -> w'.heap[k]? = w.heap[k]?) : bQ w' p bm rv R ks pv Lp :=
 ⟨(hk p (.inl rfl)).trans h.cell, cQ h.regs fun g hg => hk g (.inr (.inr (.inl hg))), h.map.kept (hk bm (.inr (.inl rfl))), fun u hu => cQ (h.rows u hu) fun g hg => hk g (.inr (.inr (.inr ⟨u, hu, hg⟩))), h.nos, h.disj, h.wf, h.kl, h.ll⟩
theorem bQ.lt (h : bQ w p bm rv R ks pv Lp) (k : Nat) (hk : bJ p bm rv ks pv k) : k < w.heap.size := by
 rcases hk with rfl | rfl | hk | ⟨u, hu, hk⟩
 . exact h.ltp
 . exact h.map.lt
 . exact (h.regs.lt k hk).2
 . exact ((h.rows u hu).lt k hk).2
theorem bQ.ofBelow (h : bQ w p bm rv R ks pv Lp) (hb : Below w.heap.size w w') : bQ w' p bm rv R ks pv Lp := h.kept fun k hk => hb.block k (h.lt k hk)
theorem bQ.ofOff {S : Nat -> Prop} (h : bQ w p bm rv R ks pv Lp) (hb : aD S w w') (hS : ∀ k, bJ p bm rv ks pv k -> ¬ S k) : bQ w' p bm rv R ks pv Lp := h.kept fun k hk => hb.block k (h.lt k hk) (hS k hk)
theorem bQ.page (h : bQ w p bm rv R ks pv Lp) (a : Int) (a0 : 0 <= a) (a1 : a < 4294967296) :
 ∀ w', w'.heap[bm]? = w.heap[bm]? -> (Instr.lookup 262 (.map (some bm)) (.agg #[.int .u32 (a / 16777216)]) false).run prog w' = .ok (cZ ks pv (a / 16777216)) w' := by
 intro w' hw
 have hm := h.map.kept hw
 have hok : fP (a / 16777216) := ⟨by omega, by omega⟩
 have hz : (zeroValue 307).run prog w' = .ok (.slice none 0 0) w' := by kernel_rfl
 unfold cZ
 by_cases hu : a / 16777216 ∈ ks
 . rw [if_pos hu]
   simpa [ek] using hm.hit nM underlying262 (x := a / 16777216) (v := pv (a / 16777216)) (List.mem_map.2 ⟨_, hu, rfl⟩) false
 . rw [if_neg hu]
   have := hm.miss nM underlying262 (x := a / 16777216) (fun q hq e => by obtain ⟨v, hv, rfl⟩ := List.mem_map.1 hq; exact hu (by rw [<- e]; exact hv)) hok hz false
   simpa [ek] using this
end
theorem iQ {w : World} {p bm : Nat} {rv : Value} {R : List (Int × Int)} {ks : List Int} {pv : Int -> Value} {Lp : Int -> List Su} (h : bQ w p bm rv R ks pv Lp) (a : Int) (a0 : 0 <= a) (a1 : a < 4294967296) (V : Value) (hV : cZ ks pv (a / 16777216) = V) :
 ∀ d os, (Instr.lookup 262 (.map (some bm)) (.agg #[.int .u32 (a / 16777216)]) false).run prog (grow (redrawn ((w.alloc (.cells #[.int .u32 0, .int .u32 0, .nilIface] 269)).alloc (.cells #[.int .u32 0, .int .u32 0, .nilIface] 269)) d) os)
  = .ok V (grow (redrawn ((w.alloc (.cells #[.int .u32 0, .int .u32 0, .nilIface] 269)).alloc (.cells #[.int .u32 0, .int .u32 0, .nilIface] 269)) d) os) := by
 intro d os
 rw [<- hV]
 have hlt : bm < w.heap.size := h.map.lt
 refine h.page a a0 a1 _ ?_
 rw [(below_regrown _ d os).block bm (by simp; omega), aJ _ _ (by simp; omega), aJ _ _ hlt]
theorem kG (a : Int) (p bm : Nat) (rv : Value) (R : List (Int × Int)) (ks : List Int) (pv : Int -> Value) (Lp : Int -> List Su) (w : World) (a0 : 0 <= a) (a1 : a < 4294967296) (h : (a % 4 != 0) = false) (hB : bQ w p bm rv R ks pv Lp) (hV : cZ ks pv (a / 16777216) = .slice none 0 0) :
 Calls prog 183 #[.pointer (some ⟨p, 0, none⟩), .int .u32 a] w fun e w' => e = .returned (.tuple #[bC, .int .i64 10]) /\ Below w.heap.size w w' := by
 have hg := bP
 have hf := bF
 have hc := aA hB.cell 1
 simp only [y0q, y1q, y2q] at hc
 have hlt := hB.ltp
 have hp2 : p < w.heap.size + 1 + 1 := by omega
 have hl := iQ hB a a0 a1 _ hV
 clear hV hB
 go_enter func183, ntmps183
 go_wp2_with fail
 go_step3
 go_wp2_with fail
 go_step3
 go_wp2_with fail
 refine wp_region_quiet_below (by kernel_rfl) (by kernel_rfl) ?_
 repeat (go_big_quiet_step (first
  | (go_at_call 217; exact Calls.regrown_of (iZ _ _ a0 a1))))
 refine wpQuiet_nil ?_
 intro _ hw'
 obtain ⟨⟨dq, osq⟩, hw''⟩ := hw'
 subst hw''
 go_wp2_with fail
 refine wp_loop_rounds 1 ?_
 rw [rounds_succ]
 go_wp2_with fail
 rw [Exit.noGoto_ret]
 have hX : (grow (redrawn ((w.alloc (.cells #[.int .u32 0, .int .u32 0, .nilIface] 269)).alloc (.cells #[.int .u32 0, .int .u32 0, .nilIface] 269)) dq) osq).heap[w.heap.size]? = some (.cells #[.int .u32 0, .int .u32 0, .nilIface] 269 (0, 0)) :=
  aB (below_regrown _ _ _) ((aJ _ _ (by simp)).trans (aF w _)) (by simp; omega)
 exact kC rfl rfl hX (trG (aO (aO (aT w) _) _) _ _)
def bS (a : Int) (L : List Su) : Value × Int := match L.find? (fun x => cE x.b x.s a) with
 | some x => (x.val, 0)
 | none => (bC, 10)
theorem yS (a : Int) (V : Value) (E : Int) (p bm : Nat) (rv : Value) (g cap : Nat) (R : List (Int × Int)) (ks : List Int) (pv : Int -> Value) (Lp : Int -> List Su) (L : List Su) (w : World) (a0 : 0 <= a) (a1 : a < 4294967296) (h : (a % 4 != 0) = false) (hB : bQ w p bm rv R ks pv Lp) (hV : cZ ks pv (a / 16777216) = .slice (some ⟨g, 0, none⟩) L.length cap) (hrow : w.ownsRow 0 269 3 (.slice (some ⟨g, 0, none⟩) L.length cap) L.length (L.flatMap Su.cells)) (hwfs : ∀ x ∈ L, x.wf) (hcap : L.length <= cap) (hmax : cap <= 9223372036854775807) (hVE : bS a L = (V, E)) :
 Calls prog 183 #[.pointer (some ⟨p, 0, none⟩), .int .u32 a] w fun e w' => e = .returned (.tuple #[V, .int .i64 E]) /\ Below w.heap.size w w' := by
 have HVE := Hd hVE
 clear hVE
 have hg := bP
 have hf := bF
 have hc := aA hB.cell 1
 simp only [y0q, y1q, y2q] at hc
 have hlt := hB.ltp
 have hp2 : p < w.heap.size + 1 + 1 := by omega
 have hl := iQ hB a a0 (by omega) _ hV
 have HRW := Hd hrow
 have HWF := Hd hwfs
 clear hB hV hrow hwfs
 go_enter func183, ntmps183
 go_wp2_with fail
 go_step3
 go_wp2_with fail
 go_step3
 go_wp2_with fail
 refine wp_region_quiet_below (by kernel_rfl) (by kernel_rfl) ?_
 repeat (go_big_quiet_step (first
  | (go_at_call 217; exact Calls.regrown_of (iZ _ _ a0 (by omega)))))
 refine wpQuiet_nil ?_
 intro _ hw'
 obtain ⟨⟨dq, osq⟩, hw''⟩ := hw'
 subst hw''
 clear hl hg hf
 go_wp2_with fail
 go_loopw [7, 26] (fun e i wr => ∃ k : Nat, k <= L.length /\ e = .int .i64 10 /\ i = .int .i64 k /\ L.find? (fun x => cE x.b x.s a) = (L.drop k).find? (fun x => cE x.b x.s a) /\
  Below (w.heap.size + 2) ((w.alloc (.cells #[.int .u32 0, .int .u32 0, .nilIface] 269)).alloc (.cells #[.int .u32 0, .int .u32 0, .nilIface] 269)) wr) (fun _ i _ => L.length - (intOf i).toNat)
 case atStart => exact ⟨0, by omega, rfl, rfl, rfl, (below_regrown _ _ _).mono (by simp)⟩
 case round =>
  obtain ⟨k, hk, rfl, rfl, hfd, hbel⟩ := hrel
  have HF := Hd hfd
  clear hfd
  have hX : wr.heap[w.heap.size]? = some (.cells #[.int .u32 0, .int .u32 0, .nilIface] 269 (0, 0)) :=
   aB hbel ((aJ _ _ (by simp)).trans (aF w _)) (by omega)
  have hX1 : wr.heap[w.heap.size + 1]? = some (.cells #[.int .u32 0, .int .u32 0, .nilIface] 269 (0, 0)) :=
   aB hbel (by simpa using aF (w.alloc (.cells #[.int .u32 0, .int .u32 0, .nilIface] 269)) (.cells #[.int .u32 0, .int .u32 0, .nilIface] 269)) (by omega)
  have hbw : Below w.heap.size w wr := (aO (aO (aT w) _) _).trans (hbel.mono (Nat.le_add_right _ _))
  have hsz := lt_of_block hX1
  by_cases hlt : k < L.length
  . obtain ⟨x, hx⟩ : ∃ x, L[k]? = some x := ⟨L[k], List.getElem?_eq_getElem hlt⟩
    have hgb : g < w.heap.size := (HRW.out.lt g rfl).2
    have hr0 := (hbw.cell (p := ⟨g, k * 3 + 0, none⟩) hgb).trans (gP (f := Su.cells) (n := 3) (fun _ => rfl) HRW.out rfl hx 0 (by decide))
    have hr1 := (hbw.cell (p := ⟨g, k * 3 + 1, none⟩) hgb).trans (gP (f := Su.cells) (n := 3) (fun _ => rfl) HRW.out rfl hx 1 (by decide))
    have hr2 := (hbw.cell (p := ⟨g, k * 3 + 2, none⟩) hgb).trans (gP (f := Su.cells) (n := 3) (fun _ => rfl) HRW.out rfl hx 2 (by decide))
    simp only [Nat.add_zero, Su.cells, Su.d, y1q, y2q] at hr0 hr1 hr2
    have hwf := HWF.out x (List.mem_of_getElem? hx)
    obtain ⟨xb, xs, xt, xv⟩ := x
    obtain ⟨q0, q1, q2⟩ := hwf
    simp only at q0 q1 q2 hr0 hr1 hr2
    have hdrop : L.drop k = ⟨xb, xs, xt, xv⟩ :: L.drop (k + 1) := by
     rw [List.drop_eq_getElem_cons hlt]; congr 1
     exact (List.getElem?_eq_some_iff.1 hx).2
    have hX0 := Hd hX
    have hX2 := Hd hX1
    have hD := Hd hdrop
    clear hX hX1 hx hdrop
    cases hh : cE xb xs a
    . have HH := Hd hh
      clear hh
      go_wp2_with (go_at_call 221; refine (zB xb xs a false _ q0 (by omega) (by omega) (by omega) a0 (by omega) HH.out).mono ?_; rintro e w1 ⟨rfl, hb1⟩)
      go_roundw
      case rel =>
       refine ⟨k + 1, by omega, rfl, by go_num, ?_, hbel.trans (((Below.refl _ _).alloc (by omega) _).trans (hb1.mono (by simp; omega)))⟩
       rw [HF.out, hD.out, List.find?_cons, HH.out]
      case measure => simp [intOf]; omega
    . have HH := Hd hh
      clear hh
      obtain ⟨rfl, rfl⟩ : Value.agg #[.int .u32 xb, .int .u32 xs, .iface xt xv] = V /\ 0 = E := by
       have h1 := HVE.out
       unfold bS at h1
       rw [HF.out, hD.out, List.find?_cons, HH.out] at h1
       exact Prod.mk.inj h1
      go_wp2_with fail
      refine (zB xb xs a true _ q0 (by omega) (by omega) (by omega) a0 (by omega) HH.out).mono ?_
      rintro e w1 ⟨rfl, hb1⟩
      have hS := aB hb1 (aF wr _) (by simp)
      have hX3 := aB hb1 ((aJ _ _ (by omega)).trans hX2.out) (by simp; omega)
      have hX4 := aB hb1 ((aJ _ _ (by omega)).trans hX0.out) (by simp; omega)
      have hs0 := aA hS 0
      have hs1 := aA hS 1
      have hs2 := aA hS 2
      have hx0 := aA hX3 0
      have hx1 := aA hX3 1
      have hx2 := aA hX3 2
      have hy0 := aA hX4 0
      have hy1 := aA hX4 1
      have hy2 := aA hX4 2
      simp only [y0q, y1q, y2q] at hs0 hs1 hs2 hx0 hx1 hx2 hy0 hy1 hy2
      have hfx0 := aH hX3 0
      have hfx1 := aH hX3 1
      have hfx2 := aH hX3 2
      have hfy0 := aH hX4 0
      have hfy1 := aH hX4 1
      have hfy2 := aH hX4 2
      have hbw1 : Below w.heap.size w w1 := tr (aO hbw _) hb1
      have hS' := Hd hS
      have hX3' := Hd hX3
      have hX4' := Hd hX4
      clear hS hX3 hX4 hb1
      go_wp2_with fail
      rw [Exit.noGoto_ret]
      exact kC rfl rfl (by rw [Below.heap_setCell _ _ _ _ (by simp), Below.heap_setCell _ _ _ _ (by simp), Below.heap_setCell _ _ _ _ (by simp)]; exact hX4'.out) (((hbw1.setCell (by simp) _).setCell (by simp) _).setCell (by simp) _)
  . have hx0 := aA hX1 0
    have hx1 := aA hX1 1
    have hx2 := aA hX1 2
    have hy0 := aA hX 0
    have hy1 := aA hX 1
    have hy2 := aA hX 2
    simp only [y0q, y1q, y2q] at hx0 hx1 hx2 hy0 hy1 hy2
    have hf0 := aH hX 0
    have hf1 := aH hX 1
    have hf2 := aH hX 2
    have hX0 := Hd hX
    clear hX hX1
    go_wp2_with fail
    rw [Exit.noGoto_ret]
    have : L.drop k = [] := List.drop_of_length_le (by omega)
    obtain ⟨rfl, rfl⟩ : bC = V /\ 10 = E := by
     have h1 := HVE.out
     unfold bS at h1
     rw [HF.out, this] at h1
     exact Prod.mk.inj h1
    exact kC rfl rfl hX0.out hbw
theorem yR (a : Int) (V : Value) (E : Int) (p bm : Nat) (rv : Value) (R : List (Int × Int)) (ks : List Int) (pv : Int -> Value) (Lp : Int -> List Su) (w : World) (a0 : 0 <= a) (a1 : a < 4294967296) (h : (a % 4 != 0) = false) (hB : bQ w p bm rv R ks pv Lp) (hVE : bS a (Lp (a / 16777216)) = (V, E)) :
 Calls prog 183 #[.pointer (some ⟨p, 0, none⟩), .int .u32 a] w fun e w' => e = .returned (.tuple #[V, .int .i64 E]) /\ Below w.heap.size w w' := by
 have hwfs := hB.wf (a / 16777216)
 by_cases hu : a / 16777216 ∈ ks
 . have hrow := hB.rows _ hu
   have hV : cZ ks pv (a / 16777216) = pv (a / 16777216) := if_pos hu
   generalize Lp (a / 16777216) = L at *
   rcases eX hrow with ⟨h1, h2⟩ | ⟨g, cap, h1, h2, h3, _⟩
   . have : L = [] := List.eq_nil_of_length_eq_zero h2
     subst this
     obtain ⟨rfl, rfl⟩ : bC = V /\ 10 = E := by unfold bS at hVE; exact Prod.mk.inj hVE
     exact kG a p bm rv R ks pv Lp w a0 a1 h hB (hV.trans h1)
   . rw [h1] at hrow hV
     unfold maxLen at h3
     exact yS a V E p bm rv g cap R ks pv Lp L w a0 a1 h hB hV hrow hwfs h2 (by omega) hVE
 . rw [hB.nos _ hu] at hVE
   obtain ⟨rfl, rfl⟩ : bC = V /\ 10 = E := by unfold bS at hVE; exact Prod.mk.inj hVE
   exact kG a p bm rv R ks pv Lp w a0 a1 h hB (if_neg hu)
theorem aAi (pb pe pv p : Nat) (w : World) (h0 : w.cell? ⟨pb, 0, none⟩ = some (.pointer (some ⟨p, 0, none⟩))) (h1 : w.cell? ⟨p, 2, none⟩ = some (.int .i64 1)) (h2 : w.frozen? ⟨p, 2, none⟩ = false)
 (h3 : w.cell? ⟨pe, 0, none⟩ = some (.int .i64 0)) (hne : pe ≠ p) :
 CallsD prog 184 #[.pointer (some ⟨pb, 0, none⟩), .pointer (some ⟨pe, 0, none⟩), .pointer (some ⟨pv, 0, none⟩)] .returning w
  fun e u' w' => e = .returned (.tuple #[]) /\ u' = .returning /\ w' = w.setCell ⟨p, 2, none⟩ (.int .i64 0) := by
 refine callsD_of_wpS func184 rfl fun c₀ cs hu => ?_
 have h4 : (w.setCell ⟨p, 2, none⟩ (.int .i64 0)).cell? ⟨pe, 0, none⟩ = some (.int .i64 0) := by
  rw [World.cell?_of_block (a := ⟨pe, 0, none⟩) (Below.heap_setCell w ⟨p, 2, none⟩ (.int .i64 0) pe hne)]; exact h3
 have hwr : IntKind.i64.wrap 0 = 0 := by decide
 apply wpS_seq
 apply wpS_region
 simp [wpOpsS, go_sem, recoverD, hu, ntmps184, Exit.thenS, h0, h1, h2, hwr]
 apply wpS_seq
 apply wpS_seq
 apply wpS_region
 simp [wpOpsS, go_sem, recoverD, hu, Exit.thenS]
 refine wpS_cond (t := false) (by simp [Act.eval, Array.replicate]) ?_
 simp only [Bool.false_eq_true, if_false]
 refine wpS_of_wp (wp_skip ?_)
 simp only [Exit.thenS]
 apply wpS_seq
 apply wpS_region
 simp [wpOpsS, go_sem, Exit.thenS, h4]
 refine wpS_cond (t := false) (by simp [Act.eval, Array.replicate]) ?_
 simp only [Bool.false_eq_true, if_false]
 refine wpS_of_wp (wp_skip ?_)
 cases c₀
 simp_all [bodyPostS, results, results184]
theorem mF {w Y : World} {tmps : Array Value} {v e : Int} (h6 : tmps[6]? = some (.pointer (some ⟨w.heap.size + 1, 0, none⟩))) (h7 : tmps[7]? = some (.pointer (some ⟨w.heap.size + 1 + 1, 0, none⟩)))
 (hY1 : Y.heap[w.heap.size + 1]? = some (.cells #[.int .u32 v] 26 (0, 0))) (hY2 : Y.heap[w.heap.size + 2]? = some (.cells #[.int .i64 e] 46 (0, 0))) {Q : World -> Prop} (hQ : Q Y) :
 bodyPostD prog Tryz.f106 (fun e' w' => e' = .returned (.tuple #[.int .u32 v, .int .i64 e]) /\ Q w') Exit.ret { tmps := tmps, defers := [] } Y := by
 have hy1 := aA hY1 0
 have hy2 := aA hY2 0
 simp at hy1 hy2
 simp [bodyPostD, Leaves, settle, results, results106, go_sem, h6, h7, hy1, hy2]
 exact hQ
theorem mN (pa : Option Addr) (a E : Int) (F : Value) (w : World) (hE : (E != 0) = true)
 (hf : ∀ w', Below w.heap.size w w' -> Calls prog 183 #[.pointer pa, .int .u32 a] w' fun e w'' => e = .returned (.tuple #[bC, .int .i64 E]) /\ Below w'.heap.size w' w'') :
 Calls prog 106 #[.pointer pa, .int .u32 a, F] w fun e w' => e = .returned (.tuple #[.int .u32 0, .int .i64 E]) /\ Below w.heap.size w w' := by
 have hmf : ∀ (fn : Fn) (first cap : Array Value) (w : World), (Instr.makeFunc fn first cap).run prog w = .ok (.func fn first cap) w := fun _ _ _ _ => rfl
 unfold bC at hf
 go_enter_defers func106, ntmps106
 go_wp2_with fail
 refine (hf _ (aO (aO (aO (aT w) _) _) _)).mono ?_
 rintro e w1 ⟨rfl, hb1⟩
 have hX0 := aB hb1 (uS w _ _ _) (by rw [qC]; omega)
 have hX1 := aB hb1 (uT w _ _ _) (by rw [qC]; omega)
 have hX2 := aB hb1 (uU w _ _ _) (by rw [qC]; omega)
 have hx0 := aA hX0 0
 have hx1 := aA hX1 0
 have hx2 := aA hX2 0
 simp only [y0q, y1q, y2q] at hx0 hx1 hx2
 have hf1 := aH hX1 0
 have hf2 := aH hX2 0
 have hl1 := lt_of_block hX1
 have hl2 := lt_of_block hX2
 have hbw : Below w.heap.size w w1 := tr (aO (aO (aO (aT w) _) _) _) hb1
 have hn0 : (w.heap.size + 1 == w1.heap.size) = false := by simp; omega
 have HX0 := Hd hX0
 have HX1 := Hd hX1
 have HX2 := Hd hX2
 clear hX0 hX1 hX2 hb1 hf
 go_wp2_with fail
 have hY1 := (aJ (w1.setCell ⟨w.heap.size + 1 + 1, 0, none⟩ (.int .i64 E)) (.cells #[.int .u32 0, .int .u32 0, .nilIface] 269) (by simpa using hl1)).trans (aN HX1.out (w.heap.size + 1 + 1) 0 (.int .i64 E) (by omega))
 have hY2 := (aJ (w1.setCell ⟨w.heap.size + 1 + 1, 0, none⟩ (.int .i64 E)) (.cells #[.int .u32 0, .int .u32 0, .nilIface] 269) (by simpa using hl2)).trans (aK HX2.out 0 (.int .i64 E))
 have hbW : Below w.heap.size w ((w1.setCell ⟨w.heap.size + 1 + 1, 0, none⟩ (.int .i64 E)).alloc (.cells #[.int .u32 0, .int .u32 0, .nilIface] 269)) := aO (hbw.setCell (by simp; omega) _) _
 generalize ((w1.setCell ⟨w.heap.size + 1 + 1, 0, none⟩ (.int .i64 E)).alloc (.cells #[.int .u32 0, .int .u32 0, .nilIface] 269)) = W at *
 clear hx0 hx1 hx2 hf1 hf2 HX0 HX1 HX2
 have hy1 := aA hY1 0
 have hy2 := aA hY2 0
 simp at hy1 hy2
 have hf1 := aH hY1 0
 have hf2 := aH hY2 0
 have HY1 := Hd hY1
 have HY2 := Hd hY2
 clear hY1 hY2
 go_region
 go_wp2_with fail
 exact mF (Y := World.drew _) rfl rfl (aN (aK HY1.out 0 _) _ _ _ (by omega)) (aK (aN HY2.out _ _ _ (by omega)) 0 _) (uH ((hbW.setCell (p := ⟨w.heap.size + 1, 0, none⟩) (Nat.le_add_right _ _) _).setCell (p := ⟨w.heap.size + 1 + 1, 0, none⟩) (by show w.heap.size <= w.heap.size + 1 + 1; omega) _))
end Go.Proofs.YtaohacadochldaaGreat.B
