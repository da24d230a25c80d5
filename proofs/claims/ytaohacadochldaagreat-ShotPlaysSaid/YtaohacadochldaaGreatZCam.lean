/- A part of the proof of a law of layer 12: am. -/
import Derived.Test.YtaohacadochldaaGreatZCal
import Derived.Laws.AppendOwn
import Derived.Laws.OwnMore
import Derived.Defers
import Derived.Recover
set_option linter.unusedVariables false
set_option linter.unusedSimpArgs false
set_option maxHeartbeats 12800000
set_option maxRecDepth 100000
namespace Go.Proofs.YtaohacadochldaaGreat.B
open Go.Proofs.Tryz
open List renaming getElem?_toArray -> y0q, getElem?_cons_zero -> y1q, getElem?_cons_succ -> y2q
open Go.ChangeShapes Go.WideShapes Go.RowKit Go.Sort
theorem jF {α : Type} (f : α -> List Value) (n : Nat) (h : ∀ x, (f x).length = n) : ∀ L : List α, (L.flatMap f).length = L.length * n
 | [] => by simp
 | x :: L => by rw [List.flatMap_cons, List.length_append, h, jF f n h L, List.length_cons, Nat.add_mul]; omega
theorem pW {α : Type} (f : α -> List Value) (n : Nat) (h : ∀ x, (f x).length = n) : ∀ (L : List α) (k j : Nat) (x : α), L[k]? = some x -> j < n -> (L.flatMap f)[k * n + j]? = (f x)[j]?
 | [], k, j, x, hx, _ => by simp at hx
 | y :: L, 0, j, x, hx, hj => by
   simp at hx; subst hx
   rw [List.flatMap_cons, Nat.zero_mul, Nat.zero_add, List.getElem?_append_left (by rw [h]; exact hj)]
 | y :: L, k + 1, j, x, hx, hj => by
   rw [List.flatMap_cons, List.getElem?_append_right (by rw [h, Nat.add_mul]; omega), h, show (k + 1) * n + j - n = k * n + j by rw [Nat.add_mul]; omega]
   exact pW f n h L k j x (by simpa using hx) hj
theorem qI {α : Type} {f : α -> List Value} {n : Nat} (h : ∀ x, (f x).length = n) {w : World} {base : Nat} {e : TypeId} {v : Value} {L : List α} (ho : w.ownsRow base e n v L.length (L.flatMap f)) {g cap : Nat} (hv : v = .slice (some ⟨g, 0, none⟩) L.length cap)
 {k : Nat} {x : α} (hx : L[k]? = some x) (j : Nat) (hj : j < n) : w.cell? ⟨g, k * n + j, none⟩ = (f x)[j]? := by
 subst hv
 have hk : k < L.length := (List.getElem?_eq_some_iff.1 hx).1
 have hb : k * n + j < L.length * n := by
  have : (k + 1) * n <= L.length * n := Nat.mul_le_mul_right n hk
  rw [Nat.add_mul] at this; omega
 rw [ho.cellAt _ hb]
 exact pW f n h L k j x hx hj
theorem gH {w : World} {base : Nat} {e : TypeId} {n m : Nat} {v : Value} {xs : List Value} (ho : w.ownsRow base e n v m xs) :
 (v = .slice none 0 0 /\ m = 0) \/ ∃ g cap, v = .slice (some ⟨g, 0, none⟩) m cap /\ m <= cap /\ cap <= maxLen /\ g < w.heap.size /\ ∃ cur, w.heap[g]? = some (.cells cur e (0, 0)) := by
 rcases ho.2 with h | ⟨g, cap, cur, h1, _, h2, h3, h4, _, _⟩
 . exact .inl h
 . exact .inr ⟨g, cap, h1, h3, h4, lt_of_block h2, cur, h2⟩
structure aNe where
 b : Int
 s : Int
 f : Nat
def bQ (x : Int × Int) : List Value := [.int .u32 x.1, .int .u32 x.2]
def aNe.wf (x : aNe) : Prop := 0 <= x.b /\ 0 < x.s /\ x.b + x.s <= 16777216
theorem iO {w w' : World} {base : Nat} {e : TypeId} {n m : Nat} {v : Value} {xs : List Value} (h : w.ownsRow base e n v m xs) (hk : ∀ g, v.ownBlock = some g -> w'.heap[g]? = w.heap[g]?) : w'.ownsRow base e n v m xs := by
 refine ⟨h.1, ?_⟩
 rcases h.2 with h2 | ⟨g, cap, cur, rfl, h3, h4, h5⟩
 . exact .inl h2
 . exact .inr ⟨g, cap, cur, rfl, h3, (hk g rfl).trans h4, h5⟩
theorem gB {w : World} {base : Nat} {e : TypeId} {n m : Nat} {v : Value} {xs : List Value} (h : w.ownsRow base e n v m xs) {k : Nat} (hk : v.ownBlock = some k) : ∃ cur, w.heap[k]? = some (.cells cur e (0, 0)) := by
 rcases h.2 with ⟨rfl, _⟩ | ⟨g, cap, cur, rfl, _, h3, _⟩
 . cases hk
 . cases hk; exact ⟨cur, h3⟩
def dR : Value := .agg #[.int .u32 0, .int .u32 0, .nilIface]
theorem aBu (a : Int) (pv : Option Addr) (w : World) (a0 : 0 <= a) (h : (a % 4 != 0) = true) :
 Calls prog 183 #[.pointer pv, .int .u32 a] w fun e w' => e = .returned (.tuple #[dR, .int .i64 11]) /\ Below w.heap.size w w' := by
 go_enter func183, ntmps183
 go_wp2_with fail
 go_step3
 go_wp2_with fail
 rw [Exit.noGoto_ret]
 refine bodyPost_ret (v := .tuple #[dR, .int .i64 11]) ?_ rfl ?_
 . simp [results, results183, go_sem, dR]
 . exact ⟨rfl, aE (aH w) _⟩
theorem vE {w W : World} {tmps : Array Value} {c0 c1 c2 d0 d1 d2 : Value} {e : Int} (h4 : tmps[4]? = some (.pointer (some ⟨w.heap.size, 0, none⟩))) (h5 : tmps[5]? = some (.int .i64 e))
 (hX : W.heap[w.heap.size]? = some (.cells #[d0, d1, d2] 269 (0, 0))) (hb : Below w.heap.size w W) :
 bodyPost prog Tryz.f183 (fun e' w' => e' = .returned (.tuple #[.agg #[c0, c1, c2], .int .i64 e]) /\ Below w.heap.size w w') Exit.ret { tmps := tmps, defers := [] }
  (((W.setCell ⟨w.heap.size, 0, none⟩ c0).setCell ⟨w.heap.size, 1, none⟩ c1).setCell ⟨w.heap.size, 2, none⟩ c2) := by
 have hY := aR (aR (aR hX 0 c0) 1 c1) 2 c2
 have hbY : Below w.heap.size w (((W.setCell ⟨w.heap.size, 0, none⟩ c0).setCell ⟨w.heap.size, 1, none⟩ c1).setCell ⟨w.heap.size, 2, none⟩ c2) := ((hb.setCell (Nat.le_refl _) _).setCell (Nat.le_refl _) _).setCell (Nat.le_refl _) _
 generalize (((W.setCell ⟨w.heap.size, 0, none⟩ c0).setCell ⟨w.heap.size, 1, none⟩ c1).setCell ⟨w.heap.size, 2, none⟩ c2) = Y at hY hbY ⊢
 have hy0 := aA hY 0
 have hy1 := aA hY 1
 have hy2 := aA hY 2
 simp at hy0 hy1 hy2
 refine bodyPost_ret (v := .tuple #[.agg #[c0, c1, c2], .int .i64 e]) ?_ rfl ⟨rfl, hbY⟩
 simp [results, results183, go_sem, hy0, hy1, hy2, h4, h5]
def W2 (w : World) : World := (w.alloc (.cells #[.int .u32 0, .int .u32 0, .nilIface] 269)).alloc (.cells #[.int .u32 0, .int .u32 0, .nilIface] 269)
structure Su where
 b : Int
 s : Int
 ty : TypeId
 dv : Value
def Su.d (x : Su) : Value := .iface x.ty x.dv
def Su.cells (x : Su) : List Value := [.int .u32 x.b, .int .u32 x.s, x.d]
def Su.val (x : Su) : Value := .agg #[.int .u32 x.b, .int .u32 x.s, x.d]
def Su.wf (x : Su) : Prop := 0 <= x.b /\ (0 < x.s /\ x.s < 4294967296) /\ x.b + x.s <= 4294967296
def Su.on (x : Su) (u : Int) : Prop := x.b / 16777216 <= u /\ u <= (x.b + (x.s - 1)) / 16777216
def jH (ks : List Int) (pv : Int -> Value) (u : Int) : Value := if u ∈ ks then pv u else .slice none 0 0
structure eZ (w : World) (p bm : Nat) (rv : Value) (R : List (Int × Int)) (ks : List Int) (pv : Int -> Value) (Lp : Int -> List Su) : Prop where
 cell : w.heap[p]? = some (.cells #[rv, .map (some bm), .int .i64 0] 265 (0, 0))
 regs : w.ownsRow 0 180 2 rv R.length (R.flatMap bQ)
 map : eA w ek lT bm (ks.map fun u => (u, pv u))
 rows : ∀ u, u ∈ ks -> w.ownsRow 0 269 3 (pv u) (Lp u).length ((Lp u).flatMap Su.cells)
 nos : ∀ u, u ∉ ks -> Lp u = []
 disj : ∀ u, u ∈ ks -> ∀ v, v ∈ ks -> u ≠ v -> ∀ k, (pv u).ownBlock = some k -> (pv v).ownBlock ≠ some k
 wf : ∀ u, ∀ x ∈ Lp u, x.wf
 kl : ks.length <= 256 * R.length
 ll : ∀ u, (Lp u).length <= R.length
def eK (p bm : Nat) (rv : Value) (ks : List Int) (pv : Int -> Value) (k : Nat) : Prop := k = p \/ k = bm \/ rv.ownBlock = some k \/ ∃ u, u ∈ ks /\ (pv u).ownBlock = some k
section
variable {w w' : World} {p bm : Nat} {rv : Value} {R : List (Int × Int)} {ks : List Int} {pv : Int -> Value} {Lp : Int -> List Su}
theorem eZ.ltp (h : eZ w p bm rv R ks pv Lp) : p < w.heap.size := lt_of_block h.cell
theorem eZ.kept (h : eZ w p bm rv R ks pv Lp) (hk : ∀ k, eK p bm rv ks pv k -> w'.heap[k]? = w.heap[k]?) : eZ w' p bm rv R ks pv Lp :=
 ⟨(hk p (.inl rfl)).trans h.cell, iO h.regs fun g hg => hk g (.inr (.inr (.inl hg))), h.map.kept (hk bm (.inr (.inl rfl))), fun u hu => iO (h.rows u hu) fun g hg => hk g (.inr (.inr (.inr ⟨u, hu, hg⟩))), h.nos, h.disj, h.wf, h.kl, h.ll⟩
theorem eZ.lt (h : eZ w p bm rv R ks pv Lp) (k : Nat) (hk : eK p bm rv ks pv k) : k < w.heap.size := by
 rcases hk with rfl | rfl | hk | ⟨u, hu, hk⟩
 . exact h.ltp
 . exact h.map.lt
 . exact (h.regs.lt k hk).2
 . exact ((h.rows u hu).lt k hk).2
theorem eZ.ofBelow (h : eZ w p bm rv R ks pv Lp) (hb : Below w.heap.size w w') : eZ w' p bm rv R ks pv Lp := h.kept fun k hk => hb.block k (h.lt k hk)
theorem eZ.ofOff {S : Nat -> Prop} (h : eZ w p bm rv R ks pv Lp) (hb : aF S w w') (hS : ∀ k, eK p bm rv ks pv k -> ¬ S k) : eZ w' p bm rv R ks pv Lp := h.kept fun k hk => hb.block k (h.lt k hk) (hS k hk)
theorem eZ.page (h : eZ w p bm rv R ks pv Lp) (a : Int) (a0 : 0 <= a) (a1 : a < 4294967296) :
 ∀ w', w'.heap[bm]? = w.heap[bm]? -> (Instr.lookup 262 (.map (some bm)) (.agg #[.int .u32 (a / 16777216)]) false).run prog w' = .ok (jH ks pv (a / 16777216)) w' := by
 intro w' hw
 have hm := h.map.kept hw
 have hok : lT (a / 16777216) := ⟨by omega, by omega⟩
 have hz : (zeroValue 307).run prog w' = .ok (.slice none 0 0) w' := by kernel_rfl
 unfold jH
 by_cases hu : a / 16777216 ∈ ks
 . rw [if_pos hu]
   simpa [ek] using hm.hit aAO underlying262 (x := a / 16777216) (v := pv (a / 16777216)) (List.mem_map.2 ⟨_, hu, rfl⟩) false
 . rw [if_neg hu]
   have := hm.miss aAO underlying262 (x := a / 16777216) (fun q hq e => by obtain ⟨v, hv, rfl⟩ := List.mem_map.1 hq; exact hu (by rw [<- e]; exact hv)) hok hz false
   simpa [ek] using this
end
theorem sO {w : World} {p bm : Nat} {rv : Value} {R : List (Int × Int)} {ks : List Int} {pv : Int -> Value} {Lp : Int -> List Su} (h : eZ w p bm rv R ks pv Lp) (a : Int) (a0 : 0 <= a) (a1 : a < 4294967296) (V : Value) (hV : jH ks pv (a / 16777216) = V) :
 ∀ d os, (Instr.lookup 262 (.map (some bm)) (.agg #[.int .u32 (a / 16777216)]) false).run prog (grow (redrawn ((w.alloc (.cells #[.int .u32 0, .int .u32 0, .nilIface] 269)).alloc (.cells #[.int .u32 0, .int .u32 0, .nilIface] 269)) d) os)
  = .ok V (grow (redrawn ((w.alloc (.cells #[.int .u32 0, .int .u32 0, .nilIface] 269)).alloc (.cells #[.int .u32 0, .int .u32 0, .nilIface] 269)) d) os) := by
 intro d os
 rw [<- hV]
 have hlt : bm < w.heap.size := h.map.lt
 refine h.page a a0 a1 _ ?_
 rw [(below_regrown _ d os).block bm (by simp; omega), aX _ _ (by simp; omega), aX _ _ hlt]
theorem vJ (a : Int) (p bm : Nat) (rv : Value) (R : List (Int × Int)) (ks : List Int) (pv : Int -> Value) (Lp : Int -> List Su) (w : World) (a0 : 0 <= a) (a1 : a < 4294967296) (h : (a % 4 != 0) = false) (hB : eZ w p bm rv R ks pv Lp) (hV : jH ks pv (a / 16777216) = .slice none 0 0) :
 Calls prog 183 #[.pointer (some ⟨p, 0, none⟩), .int .u32 a] w fun e w' => e = .returned (.tuple #[dR, .int .i64 10]) /\ Below w.heap.size w w' := by
 have hg := bC
 have hf := dE
 have hc := aA hB.cell 1
 simp only [y0q, y1q, y2q] at hc
 have hlt := hB.ltp
 have hp2 : p < w.heap.size + 1 + 1 := by omega
 have hl := sO hB a a0 a1 _ hV
 clear hV hB
 go_enter func183, ntmps183
 go_wp2_with fail
 go_step3
 go_wp2_with fail
 go_step3
 go_wp2_with fail
 refine wp_region_quiet_below (by kernel_rfl) (by kernel_rfl) ?_
 repeat (go_big_quiet_step (first
  | (go_at_call 217; exact Calls.regrown_of (tA _ _ a0 a1))))
 refine wpQuiet_nil ?_
 intro _ hw'
 obtain ⟨⟨dq, osq⟩, hw''⟩ := hw'
 subst hw''
 go_wp2_with fail
 refine wp_loop_rounds 1 ?_
 rw [rounds_succ]
 go_wp2_with fail
 rw [Exit.noGoto_ret]
 have hX : (grow (redrawn ((w.alloc (.cells #[.int .u32 0, .int .u32 0, .nilIface] 269)).alloc (.cells #[.int .u32 0, .int .u32 0, .nilIface] 269)) dq) osq).heap[w.heap.size]? = some (.cells #[.int .u32 0, .int .u32 0, .nilIface] 269 (0, 0)) :=
  aC (below_regrown _ _ _) ((aX _ _ (by simp)).trans (aD w _)) (by simp; omega)
 exact vE rfl rfl hX (trG (aE (aE (aH w) _) _) _ _)
def fF (a : Int) (L : List Su) : Value × Int := match L.find? (fun x => gG x.b x.s a) with
 | some x => (x.val, 0)
 | none => (dR, 10)
theorem aHp (a : Int) (V : Value) (E : Int) (p bm : Nat) (rv : Value) (g cap : Nat) (R : List (Int × Int)) (ks : List Int) (pv : Int -> Value) (Lp : Int -> List Su) (L : List Su) (w : World) (a0 : 0 <= a) (a1 : a < 4294967296) (h : (a % 4 != 0) = false) (hB : eZ w p bm rv R ks pv Lp) (hV : jH ks pv (a / 16777216) = .slice (some ⟨g, 0, none⟩) L.length cap) (hrow : w.ownsRow 0 269 3 (.slice (some ⟨g, 0, none⟩) L.length cap) L.length (L.flatMap Su.cells)) (hwfs : ∀ x ∈ L, x.wf) (hcap : L.length <= cap) (hmax : cap <= 9223372036854775807) (hVE : fF a L = (V, E)) :
 Calls prog 183 #[.pointer (some ⟨p, 0, none⟩), .int .u32 a] w fun e w' => e = .returned (.tuple #[V, .int .i64 E]) /\ Below w.heap.size w w' := by
 have HVE := Hd hVE
 clear hVE
 have hg := bC
 have hf := dE
 have hc := aA hB.cell 1
 simp only [y0q, y1q, y2q] at hc
 have hlt := hB.ltp
 have hp2 : p < w.heap.size + 1 + 1 := by omega
 have hl := sO hB a a0 (by omega) _ hV
 have HRW := Hd hrow
 have HWF := Hd hwfs
 clear hB hV hrow hwfs
 go_enter func183, ntmps183
 go_wp2_with fail
 go_step3
 go_wp2_with fail
 go_step3
 go_wp2_with fail
 refine wp_region_quiet_below (by kernel_rfl) (by kernel_rfl) ?_
 repeat (go_big_quiet_step (first
  | (go_at_call 217; exact Calls.regrown_of (tA _ _ a0 (by omega)))))
 refine wpQuiet_nil ?_
 intro _ hw'
 obtain ⟨⟨dq, osq⟩, hw''⟩ := hw'
 subst hw''
 clear hl hg hf
 go_wp2_with fail
 go_loopw [7, 26] (fun e i wr => ∃ k : Nat, k <= L.length /\ e = .int .i64 10 /\ i = .int .i64 k /\ L.find? (fun x => gG x.b x.s a) = (L.drop k).find? (fun x => gG x.b x.s a) /\
  Below (w.heap.size + 2) ((w.alloc (.cells #[.int .u32 0, .int .u32 0, .nilIface] 269)).alloc (.cells #[.int .u32 0, .int .u32 0, .nilIface] 269)) wr) (fun _ i _ => L.length - (intOf i).toNat)
 case atStart => exact ⟨0, by omega, rfl, rfl, rfl, (below_regrown _ _ _).mono (by simp)⟩
 case round =>
  obtain ⟨k, hk, rfl, rfl, hfd, hbel⟩ := hrel
  have HF := Hd hfd
  clear hfd
  have hX : wr.heap[w.heap.size]? = some (.cells #[.int .u32 0, .int .u32 0, .nilIface] 269 (0, 0)) :=
   aC hbel ((aX _ _ (by simp)).trans (aD w _)) (by omega)
  have hX1 : wr.heap[w.heap.size + 1]? = some (.cells #[.int .u32 0, .int .u32 0, .nilIface] 269 (0, 0)) :=
   aC hbel (by simpa using aD (w.alloc (.cells #[.int .u32 0, .int .u32 0, .nilIface] 269)) (.cells #[.int .u32 0, .int .u32 0, .nilIface] 269)) (by omega)
  have hbw : Below w.heap.size w wr := (aE (aE (aH w) _) _).trans (hbel.mono (Nat.le_add_right _ _))
  have hsz := lt_of_block hX1
  by_cases hlt : k < L.length
  . obtain ⟨x, hx⟩ : ∃ x, L[k]? = some x := ⟨L[k], List.getElem?_eq_getElem hlt⟩
    have hgb : g < w.heap.size := (HRW.out.lt g rfl).2
    have hr0 := (hbw.cell (p := ⟨g, k * 3 + 0, none⟩) hgb).trans (qI (f := Su.cells) (n := 3) (fun _ => rfl) HRW.out rfl hx 0 (by decide))
    have hr1 := (hbw.cell (p := ⟨g, k * 3 + 1, none⟩) hgb).trans (qI (f := Su.cells) (n := 3) (fun _ => rfl) HRW.out rfl hx 1 (by decide))
    have hr2 := (hbw.cell (p := ⟨g, k * 3 + 2, none⟩) hgb).trans (qI (f := Su.cells) (n := 3) (fun _ => rfl) HRW.out rfl hx 2 (by decide))
    simp only [Nat.add_zero, Su.cells, Su.d, y1q, y2q] at hr0 hr1 hr2
    have hwf := HWF.out x (List.mem_of_getElem? hx)
    obtain ⟨xb, xs, xt, xv⟩ := x
    obtain ⟨q0, q1, q2⟩ := hwf
    simp only at q0 q1 q2 hr0 hr1 hr2
    have hdrop : L.drop k = ⟨xb, xs, xt, xv⟩ :: L.drop (k + 1) := by
     rw [List.drop_eq_getElem_cons hlt]; congr 1
     exact (List.getElem?_eq_some_iff.1 hx).2
    have hX0 := Hd hX
    have hX2 := Hd hX1
    have hD := Hd hdrop
    clear hX hX1 hx hdrop
    cases hh : gG xb xs a
    . have HH := Hd hh
      clear hh
      go_wp2_with (go_at_call 221; refine (aH5 xb xs a false _ q0 (by omega) (by omega) (by omega) a0 (by omega) HH.out).mono ?_; rintro e w1 ⟨rfl, hb1⟩)
      go_roundw
      case rel =>
       refine ⟨k + 1, by omega, rfl, by go_num, ?_, hbel.trans (((Below.refl _ _).alloc (by omega) _).trans (hb1.mono (by simp; omega)))⟩
       rw [HF.out, hD.out, List.find?_cons, HH.out]
      case measure => simp [intOf]; omega
    . have HH := Hd hh
      clear hh
      obtain ⟨rfl, rfl⟩ : Value.agg #[.int .u32 xb, .int .u32 xs, .iface xt xv] = V /\ 0 = E := by
       have h1 := HVE.out
       unfold fF at h1
       rw [HF.out, hD.out, List.find?_cons, HH.out] at h1
       exact Prod.mk.inj h1
      go_wp2_with fail
      refine (aH5 xb xs a true _ q0 (by omega) (by omega) (by omega) a0 (by omega) HH.out).mono ?_
      rintro e w1 ⟨rfl, hb1⟩
      have hS := aC hb1 (aD wr _) (by simp)
      have hX3 := aC hb1 ((aX _ _ (by omega)).trans hX2.out) (by simp; omega)
      have hX4 := aC hb1 ((aX _ _ (by omega)).trans hX0.out) (by simp; omega)
      have hs0 := aA hS 0
      have hs1 := aA hS 1
      have hs2 := aA hS 2
      have hx0 := aA hX3 0
      have hx1 := aA hX3 1
      have hx2 := aA hX3 2
      have hy0 := aA hX4 0
      have hy1 := aA hX4 1
      have hy2 := aA hX4 2
      simp only [y0q, y1q, y2q] at hs0 hs1 hs2 hx0 hx1 hx2 hy0 hy1 hy2
      have hfx0 := aK hX3 0
      have hfx1 := aK hX3 1
      have hfx2 := aK hX3 2
      have hfy0 := aK hX4 0
      have hfy1 := aK hX4 1
      have hfy2 := aK hX4 2
      have hbw1 : Below w.heap.size w w1 := tr (aE hbw _) hb1
      have hS' := Hd hS
      have hX3' := Hd hX3
      have hX4' := Hd hX4
      clear hS hX3 hX4 hb1
      go_wp2_with fail
      rw [Exit.noGoto_ret]
      exact vE rfl rfl (by rw [Below.heap_setCell _ _ _ _ (by simp), Below.heap_setCell _ _ _ _ (by simp), Below.heap_setCell _ _ _ _ (by simp)]; exact hX4'.out) (((hbw1.setCell (by simp) _).setCell (by simp) _).setCell (by simp) _)
  . have hx0 := aA hX1 0
    have hx1 := aA hX1 1
    have hx2 := aA hX1 2
    have hy0 := aA hX 0
    have hy1 := aA hX 1
    have hy2 := aA hX 2
    simp only [y0q, y1q, y2q] at hx0 hx1 hx2 hy0 hy1 hy2
    have hf0 := aK hX 0
    have hf1 := aK hX 1
    have hf2 := aK hX 2
    have hX0 := Hd hX
    clear hX hX1
    go_wp2_with fail
    rw [Exit.noGoto_ret]
    have : L.drop k = [] := List.drop_of_length_le (by omega)
    obtain ⟨rfl, rfl⟩ : dR = V /\ 10 = E := by
     have h1 := HVE.out
     unfold fF at h1
     rw [HF.out, this] at h1
     exact Prod.mk.inj h1
    exact vE rfl rfl hX0.out hbw
theorem aHo (a : Int) (V : Value) (E : Int) (p bm : Nat) (rv : Value) (R : List (Int × Int)) (ks : List Int) (pv : Int -> Value) (Lp : Int -> List Su) (w : World) (a0 : 0 <= a) (a1 : a < 4294967296) (h : (a % 4 != 0) = false) (hB : eZ w p bm rv R ks pv Lp) (hVE : fF a (Lp (a / 16777216)) = (V, E)) :
 Calls prog 183 #[.pointer (some ⟨p, 0, none⟩), .int .u32 a] w fun e w' => e = .returned (.tuple #[V, .int .i64 E]) /\ Below w.heap.size w w' := by
 have hwfs := hB.wf (a / 16777216)
 by_cases hu : a / 16777216 ∈ ks
 . have hrow := hB.rows _ hu
   have hV : jH ks pv (a / 16777216) = pv (a / 16777216) := if_pos hu
   generalize Lp (a / 16777216) = L at *
   rcases gH hrow with ⟨h1, h2⟩ | ⟨g, cap, h1, h2, h3, _⟩
   . have : L = [] := List.eq_nil_of_length_eq_zero h2
     subst this
     obtain ⟨rfl, rfl⟩ : dR = V /\ 10 = E := by unfold fF at hVE; exact Prod.mk.inj hVE
     exact vJ a p bm rv R ks pv Lp w a0 a1 h hB (hV.trans h1)
   . rw [h1] at hrow hV
     unfold maxLen at h3
     exact aHp a V E p bm rv g cap R ks pv Lp L w a0 a1 h hB hV hrow hwfs h2 (by omega) hVE
 . rw [hB.nos _ hu] at hVE
   obtain ⟨rfl, rfl⟩ : dR = V /\ 10 = E := by unfold fF at hVE; exact Prod.mk.inj hVE
   exact vJ a p bm rv R ks pv Lp w a0 a1 h hB (if_neg hu)
theorem aJ0 (pb pe pv p : Nat) (w : World) (h0 : w.cell? ⟨pb, 0, none⟩ = some (.pointer (some ⟨p, 0, none⟩))) (h1 : w.cell? ⟨p, 2, none⟩ = some (.int .i64 1)) (h2 : w.frozen? ⟨p, 2, none⟩ = false)
 (h3 : w.cell? ⟨pe, 0, none⟩ = some (.int .i64 0)) (hne : pe ≠ p) :
 CallsD prog 184 #[.pointer (some ⟨pb, 0, none⟩), .pointer (some ⟨pe, 0, none⟩), .pointer (some ⟨pv, 0, none⟩)] .returning w
  fun e u' w' => e = .returned (.tuple #[]) /\ u' = .returning /\ w' = w.setCell ⟨p, 2, none⟩ (.int .i64 0) := by
 refine callsD_of_wpS func184 rfl fun c₀ cs hu => ?_
 have h4 : (w.setCell ⟨p, 2, none⟩ (.int .i64 0)).cell? ⟨pe, 0, none⟩ = some (.int .i64 0) := by
  rw [World.cell?_of_block (a := ⟨pe, 0, none⟩) (Below.heap_setCell w ⟨p, 2, none⟩ (.int .i64 0) pe hne)]; exact h3
 have hwr : IntKind.i64.wrap 0 = 0 := by decide
 apply wpS_seq
 apply wpS_region
 simp [wpOpsS, go_sem, recoverD, hu, ntmps184, Exit.thenS, h0, h1, h2, hwr]
 apply wpS_seq
 apply wpS_seq
 apply wpS_region
 simp [wpOpsS, go_sem, recoverD, hu, Exit.thenS]
 refine wpS_cond (t := false) (by simp [Act.eval, Array.replicate]) ?_
 simp only [Bool.false_eq_true, if_false]
 refine wpS_of_wp (wp_skip ?_)
 simp only [Exit.thenS]
 apply wpS_seq
 apply wpS_region
 simp [wpOpsS, go_sem, Exit.thenS, h4]
 refine wpS_cond (t := false) (by simp [Act.eval, Array.replicate]) ?_
 simp only [Bool.false_eq_true, if_false]
 refine wpS_of_wp (wp_skip ?_)
 cases c₀
 simp_all [bodyPostS, results, results184]
theorem yO {w Y : World} {tmps : Array Value} {v e : Int} (h6 : tmps[6]? = some (.pointer (some ⟨w.heap.size + 1, 0, none⟩))) (h7 : tmps[7]? = some (.pointer (some ⟨w.heap.size + 1 + 1, 0, none⟩)))
 (hY1 : Y.heap[w.heap.size + 1]? = some (.cells #[.int .u32 v] 26 (0, 0))) (hY2 : Y.heap[w.heap.size + 2]? = some (.cells #[.int .i64 e] 46 (0, 0))) {Q : World -> Prop} (hQ : Q Y) :
 bodyPostD prog Tryz.f106 (fun e' w' => e' = .returned (.tuple #[.int .u32 v, .int .i64 e]) /\ Q w') Exit.ret { tmps := tmps, defers := [] } Y := by
 have hy1 := aA hY1 0
 have hy2 := aA hY2 0
 simp at hy1 hy2
 simp [bodyPostD, Leaves, settle, results, results106, go_sem, h6, h7, hy1, hy2]
 exact hQ
theorem zA (pa : Option Addr) (a E : Int) (F : Value) (w : World) (hE : (E != 0) = true)
 (hf : ∀ w', Below w.heap.size w w' -> Calls prog 183 #[.pointer pa, .int .u32 a] w' fun e w'' => e = .returned (.tuple #[dR, .int .i64 E]) /\ Below w'.heap.size w' w'') :
 Calls prog 106 #[.pointer pa, .int .u32 a, F] w fun e w' => e = .returned (.tuple #[.int .u32 0, .int .i64 E]) /\ Below w.heap.size w w' := by
 have hmf : ∀ (fn : Fn) (first cap : Array Value) (w : World), (Instr.makeFunc fn first cap).run prog w = .ok (.func fn first cap) w := fun _ _ _ _ => rfl
 unfold dR at hf
 go_enter_defers func106, ntmps106
 go_wp2_with fail
 refine (hf _ (aE (aE (aE (aH w) _) _) _)).mono ?_
 rintro e w1 ⟨rfl, hb1⟩
 have hX0 := aC hb1 (aCA w _ _ _) (by rw [aCD]; omega)
 have hX1 := aC hb1 (aCB w _ _ _) (by rw [aCD]; omega)
 have hX2 := aC hb1 (aCC w _ _ _) (by rw [aCD]; omega)
 have hx0 := aA hX0 0
 have hx1 := aA hX1 0
 have hx2 := aA hX2 0
 simp only [y0q, y1q, y2q] at hx0 hx1 hx2
 have hf1 := aK hX1 0
 have hf2 := aK hX2 0
 have hl1 := lt_of_block hX1
 have hl2 := lt_of_block hX2
 have hbw : Below w.heap.size w w1 := tr (aE (aE (aE (aH w) _) _) _) hb1
 have hn0 : (w.heap.size + 1 == w1.heap.size) = false := by simp; omega
 have HX0 := Hd hX0
 have HX1 := Hd hX1
 have HX2 := Hd hX2
 clear hX0 hX1 hX2 hb1 hf
 go_wp2_with fail
 have hY1 := (aX (w1.setCell ⟨w.heap.size + 1 + 1, 0, none⟩ (.int .i64 E)) (.cells #[.int .u32 0, .int .u32 0, .nilIface] 269) (by simpa using hl1)).trans (aV HX1.out (w.heap.size + 1 + 1) 0 (.int .i64 E) (by omega))
 have hY2 := (aX (w1.setCell ⟨w.heap.size + 1 + 1, 0, none⟩ (.int .i64 E)) (.cells #[.int .u32 0, .int .u32 0, .nilIface] 269) (by simpa using hl2)).trans (aR HX2.out 0 (.int .i64 E))
 have hbW : Below w.heap.size w ((w1.setCell ⟨w.heap.size + 1 + 1, 0, none⟩ (.int .i64 E)).alloc (.cells #[.int .u32 0, .int .u32 0, .nilIface] 269)) := aE (hbw.setCell (by simp; omega) _) _
 generalize ((w1.setCell ⟨w.heap.size + 1 + 1, 0, none⟩ (.int .i64 E)).alloc (.cells #[.int .u32 0, .int .u32 0, .nilIface] 269)) = W at *
 clear hx0 hx1 hx2 hf1 hf2 HX0 HX1 HX2
 have hy1 := aA hY1 0
 have hy2 := aA hY2 0
 simp at hy1 hy2
 have hf1 := aK hY1 0
 have hf2 := aK hY2 0
 have HY1 := Hd hY1
 have HY2 := Hd hY2
 clear hY1 hY2
 go_region
 go_wp2_with fail
 exact yO (Y := World.drew _) rfl rfl (aV (aR HY1.out 0 _) _ _ _ (by omega)) (aR (aV HY2.out _ _ _ (by omega)) 0 _) (jQ ((hbW.setCell (p := ⟨w.heap.size + 1, 0, none⟩) (Nat.le_add_right _ _) _).setCell (p := ⟨w.heap.size + 1 + 1, 0, none⟩) (by show w.heap.size <= w.heap.size + 1 + 1; omega) _))
structure tE (u w : World) : Prop where
 os : w.os = u.os
 tape : w.tape = u.tape
 output : w.output = u.output
 size : w.heap.size = u.heap.size
 block : ∀ k : Nat, w.heap[k]? = u.heap[k]?
theorem tE.refl (w : World) : tE w w := ⟨rfl, rfl, rfl, rfl, fun _ => rfl⟩
theorem tE.off {u w : World} (p j : Nat) (v : Value) (h : tE (u.setCell ⟨p, j, none⟩ v) w) : aF (· = p) u w := by
 have o := aG u p j v
 exact ⟨h.os.trans o.os, h.tape.trans o.tape, h.output.trans o.output, by rw [h.size]; exact o.size, fun k hk hs => (h.block k).trans (o.block k hk hs)⟩
theorem aHb {w : World} {b : Nat} {x : Value} {t : TypeId} (h : w.heap[b]? = some (.cells #[x] t (0, 0))) : tE w (w.setCell ⟨b, 0, none⟩ x) := by
 have hb := Below.setCell (Below.refl b w) (p := ⟨b, 0, none⟩) (Nat.le_refl _) x
 refine ⟨hb.os, hb.tape, hb.output, by simp, fun k => ?_⟩
 by_cases e : k = b
 . subst e; rw [aR h, h]; simp
 . exact Below.heap_setCell w ⟨b, 0, none⟩ x k e
theorem tE.trans {a b c : World} (h : tE a b) (k : tE b c) : tE a c := ⟨k.os.trans h.os, k.tape.trans h.tape, k.output.trans h.output, k.size.trans h.size, fun i => (k.block i).trans (h.block i)⟩
theorem aNA (pb pe pv p : Nat) (E v : Int) (w : World) (h0 : w.cell? ⟨pb, 0, none⟩ = some (.pointer (some ⟨p, 0, none⟩))) (h1 : w.cell? ⟨p, 2, none⟩ = some (.int .i64 1)) (h2 : w.frozen? ⟨p, 2, none⟩ = false)
 (h3 : w.cell? ⟨pe, 0, none⟩ = some (.int .i64 E)) (hne : pe ≠ p /\ pv ≠ p) (h5 : w.heap[pv]? = some (.cells #[.int .u32 v] 26 (0, 0))) (hv : E ≠ 0 -> v = 0) :
 CallsD prog 184 #[.pointer (some ⟨pb, 0, none⟩), .pointer (some ⟨pe, 0, none⟩), .pointer (some ⟨pv, 0, none⟩)] .returning w
  fun e u' w' => e = .returned (.tuple #[]) /\ u' = .returning /\ tE (w.setCell ⟨p, 2, none⟩ (.int .i64 0)) w' := by
 by_cases hE : E = 0
 . subst hE
   exact (aJ0 pb pe pv p w h0 h1 h2 h3 hne.1).mono fun e u' w' g => ⟨g.1, g.2.1, g.2.2 ▸ tE.refl _⟩
 . obtain rfl : v = 0 := hv hE
   refine callsD_of_wpS func184 rfl fun c₀ cs hu => ?_
   have h4 : (w.setCell ⟨p, 2, none⟩ (.int .i64 0)).cell? ⟨pe, 0, none⟩ = some (.int .i64 E) := by
    rw [World.cell?_of_block (a := ⟨pe, 0, none⟩) (Below.heap_setCell w ⟨p, 2, none⟩ (.int .i64 0) pe hne.1)]; exact h3
   have h6 : (w.setCell ⟨p, 2, none⟩ (.int .i64 0)).heap[pv]? = some (.cells #[.int .u32 0] 26 (0, 0)) := aV h5 p 2 _ hne.2
   have h7 := aA h6 0
   simp only [y0q, y1q] at h7
   have h8 := aK h6 0
   have HS := Hd (aHb h6)
   have hwr : IntKind.i64.wrap 0 = 0 := by decide
   have hE1 : (E == 0) = false := by simpa using hE
   have hE2 : (E != 0) = true := by simpa using hE
   clear h5 h6
   apply wpS_seq
   apply wpS_region
   simp [wpOpsS, go_sem, recoverD, hu, ntmps184, Exit.thenS, h0, h1, h2, hwr]
   apply wpS_seq
   apply wpS_seq
   apply wpS_region
   simp [wpOpsS, go_sem, recoverD, hu, Exit.thenS]
   refine wpS_cond (t := false) (by simp [Act.eval, Array.replicate]) ?_
   simp only [Bool.false_eq_true, if_false]
   refine wpS_of_wp (wp_skip ?_)
   simp only [Exit.thenS]
   apply wpS_seq
   apply wpS_region
   simp [wpOpsS, go_sem, Exit.thenS, h4, hE, hE1, hE2]
   refine wpS_cond (t := true) (by simp [Act.eval, Array.replicate]) ?_
   simp only [if_true]
   apply wpS_region
   simp [wpOpsS, go_sem, Exit.thenS, h7, h8]
   cases c₀
   simp_all [bodyPostS, results, results184]
   exact HS.out
theorem xO {P : Prop} (h : P := by
 have hmf : ∀ (fn : Fn) (first cap : Array Value) (w : World), (Instr.makeFunc fn first cap).run prog w = .ok (.func fn first cap) w := fun _ _ _ _ => rfl
 go_enter_defers func106, ntmps106
 go_wp2_with fail
 refine (aHo a _ _ p bm rv R ks pv Lp _ a0 a1 h ?_ hfd).mono ?_
 . exact hB.ofBelow (aE (aE (aE (aH w) _) _) _)
 rintro e w1 ⟨rfl, hb1⟩
 have hP := aC hb1 ((aPY w _ _ _ hB.ltp).trans hB.cell) (by rw [aCD]; have := hB.ltp; omega)
 have hX0 := aC hb1 (aCA w _ _ _) (by rw [aCD]; omega)
 have hX1 := aC hb1 (aCB w _ _ _) (by rw [aCD]; omega)
 have hX2 := aC hb1 (aCC w _ _ _) (by rw [aCD]; omega)
 have hx2 := aA hX2 0
 simp only [List.getElem?_toArray, List.getElem?_cons_zero, List.getElem?_cons_succ] at hx2
 have hf2 := aK hX2 0
 have hl0 := lt_of_block hX0
 have hl1 := lt_of_block hX1
 have hl2 := lt_of_block hX2
 have hlp0 := hB.ltp
 have hlp := lt_of_block hP
 have hbw : Below w.heap.size w w1 := tr (aE (aE (aE (aH w) _) _) _) hb1
 have HX0 := Hd hX0
 have HX1 := Hd hX1
 have HX2 := Hd hX2
 have HP := Hd hP
 have HB := Hd hB
 clear hX0 hX1 hX2 hb1 hP hB
 go_upto_region 2 with (fail)
 have hY0 := (aX (w1.setCell ⟨w.heap.size + 1 + 1, 0, none⟩ (.int .i64 0)) (.cells #[.int .u32 b, .int .u32 s, .iface xt xv] 269) (by simpa using hl0)).trans (aV HX0.out (w.heap.size + 1 + 1) 0 (.int .i64 0) (by omega))
 have hY1 := (aX (w1.setCell ⟨w.heap.size + 1 + 1, 0, none⟩ (.int .i64 0)) (.cells #[.int .u32 b, .int .u32 s, .iface xt xv] 269) (by simpa using hl1)).trans (aV HX1.out (w.heap.size + 1 + 1) 0 (.int .i64 0) (by omega))
 have hY2 := (aX (w1.setCell ⟨w.heap.size + 1 + 1, 0, none⟩ (.int .i64 0)) (.cells #[.int .u32 b, .int .u32 s, .iface xt xv] 269) (by simpa using hl2)).trans (aR HX2.out 0 (.int .i64 0))
 have hYP := (aX (w1.setCell ⟨w.heap.size + 1 + 1, 0, none⟩ (.int .i64 0)) (.cells #[.int .u32 b, .int .u32 s, .iface xt xv] 269) (by simpa using hlp)).trans (aV HP.out (w.heap.size + 1 + 1) 0 (.int .i64 0) (by omega))
 have hYS := aD (w1.setCell ⟨w.heap.size + 1 + 1, 0, none⟩ (.int .i64 0)) (.cells #[.int .u32 b, .int .u32 s, .iface xt xv] 269)
 have hbW : Below w.heap.size w ((w1.setCell ⟨w.heap.size + 1 + 1, 0, none⟩ (.int .i64 0)).alloc (.cells #[.int .u32 b, .int .u32 s, .iface xt xv] 269)) := aE (hbw.setCell (p := ⟨w.heap.size + 1 + 1, 0, none⟩) (by show w.heap.size <= w.heap.size + 1 + 1; omega) _) _
 generalize ((w1.setCell ⟨w.heap.size + 1 + 1, 0, none⟩ (.int .i64 0)).alloc (.cells #[.int .u32 b, .int .u32 s, .iface xt xv] 269)) = W at *
 have hY2 : W.heap[w.heap.size + 2]? = some (.cells #[.int .i64 0] 46 (0, 0)) := by simpa using hY2
 have hYS : W.heap[w1.heap.size]? = some (.cells #[.int .u32 b, .int .u32 s, .iface xt xv] 269 (0, 0)) := by simpa using hYS
 clear hx2 hf2 HX0 HX1 HX2 HP hbw
 have hx0 := aA hY0 0
 have hx2 := aA hY2 0
 have hp2 := aA hYP 2
 have hs0 := aA hYS 0
 have hs2 := aA hYS 2
 simp only [List.getElem?_toArray, List.getElem?_cons_zero, List.getElem?_cons_succ] at hx0 hx2 hp2 hs0 hs2
 have hfp := aK hYP 2
 have hlq := lt_of_block hYS
 have hn1 : (p == w.heap.size) = false := by simp; omega
 have hn2 : (p == w1.heap.size) = false := by simp; omega
 have H0 := Hd hY0
 have H1 := Hd hY1
 have H2 := Hd hY2
 have HP := Hd hYP
 have HS := Hd hYS
 clear hY0 hY1 hY2 hYP hYS
 go_upto_region 8 with (fail)
 clear hx0 hx2 hp2 hfp hn1 hn2
 go_wp2_with fail
 have ho1 : aF (· = p) w (W.setCell ⟨p, 2, none⟩ (.int .i64 1)) := (aF.ofBelow hbW).trans (aF.ofSetCell W ⟨p, 2, none⟩ _ rfl)
 refine (hdev _ ho1).mono ?_
 rintro e Z ⟨rfl, ho2, hTZ⟩
 have hZ0 := ho2.at (aV H0.out p 2 (.int .i64 1) (by omega)) (fun h => by have := hDl _ h; omega)
 have hZ1 := ho2.at (aV H1.out p 2 (.int .i64 1) (by omega)) (fun h => by have := hDl _ h; omega)
 have hZ2 := ho2.at (aV H2.out p 2 (.int .i64 1) (by omega)) (fun h => by have := hDl _ h; omega)
 have hZP := ho2.at (aR HP.out 2 (.int .i64 1)) hDp
 have hz1 := aA hZ1 0
 have hz2 := aA hZ2 0
 simp only [List.getElem?_toArray, List.getElem?_cons_zero, List.getElem?_cons_succ] at hz1 hz2
 have hfz1 := aK hZ1 0
 have hfz2 := aK hZ2 0
 have G0 := Hd hZ0
 have G1 := Hd hZ1
 have G2 := Hd hZ2
 have GP := Hd hZP
 have O1 := Hd ho1
 have O2 := Hd ho2
 clear hZ0 hZ1 hZ2 hZP ho1 ho2 hdev H0 H1 H2 HS
 go_wp2_with fail
 have hQ0 := aV (aV G0.out (w.heap.size + 1) 0 (.int .u32 v) (by omega)) (w.heap.size + 1 + 1) 0 (.int .i64 E) (by omega)
 have hQ1 := aV (aR G1.out 0 (.int .u32 v)) (w.heap.size + 1 + 1) 0 (.int .i64 E) (by omega)
 have hQ2 := aR (aV G2.out (w.heap.size + 1) 0 (.int .u32 v) (by omega)) 0 (.int .i64 E)
 have hQP := aV (aV GP.out (w.heap.size + 1) 0 (.int .u32 v) (by omega)) (w.heap.size + 1 + 1) 0 (.int .i64 E) (by omega)
 have hOY : aF (fun k => k = p \/ D k) w (((Z.setCell ⟨w.heap.size + 1, 0, none⟩ (.int .u32 v)).setCell ⟨w.heap.size + 1 + 1, 0, none⟩ (.int .i64 E))) := by
  refine ((O1.out.andThen O2.out (U := fun k => k = p \/ D k) (fun _ _ h => .inl h) (fun _ _ h => .inr h)).andThen (T := (· = w.heap.size + 1)) (aF.ofSetCell _ _ _ rfl) (fun _ _ h => h) (fun i hi h => by omega)).andThen (T := (· = w.heap.size + 1 + 1)) (aF.ofSetCell _ _ _ rfl) (fun _ _ h => h) (fun i hi h => by omega)
 have hTY := hT _ (((Z.setCell ⟨w.heap.size + 1, 0, none⟩ (.int .u32 v)).setCell ⟨w.heap.size + 1 + 1, 0, none⟩ (.int .i64 E))) hTZ ((aF.ofSetCell (S := fun k => k = p \/ w.heap.size <= k) Z ⟨w.heap.size + 1, 0, none⟩ (.int .u32 v) (.inr (by show w.heap.size <= w.heap.size + 1; omega))).trans (aF.ofSetCell (S := fun k => k = p \/ w.heap.size <= k) _ ⟨w.heap.size + 1 + 1, 0, none⟩ (.int .i64 E) (.inr (by show w.heap.size <= w.heap.size + 1 + 1; omega))))
 generalize ((Z.setCell ⟨w.heap.size + 1, 0, none⟩ (.int .u32 v)).setCell ⟨w.heap.size + 1 + 1, 0, none⟩ (.int .i64 E)) = Y0 at *
 refine leaves_cons (f := 184) (args := #[.pointer (some ⟨w.heap.size, 0, none⟩), .pointer (some ⟨w.heap.size + 1 + 1, 0, none⟩), .pointer (some ⟨w.heap.size + 1, 0, none⟩)]) (by simp) (by simp [go_sem]) ?_
 refine (aNA w.heap.size (w.heap.size + 1 + 1) (w.heap.size + 1) p E v Y0 ?_ ?_ ?_ ?_ ?_ ?_ hvE).mono ?_
 . simpa using aA hQ0 0
 . simpa using aA hQP 2
 . exact aK hQP 2
 . simpa using aA hQ2 0
 . exact ⟨by omega, by omega⟩
 . exact hQ1
 rintro e u' Y ⟨rfl, rfl, hY⟩
 refine yO (Q := fun w' => aF D w w' /\ T w') rfl rfl ((hY.block _).trans (aV hQ1 p 2 _ (by omega))) ((hY.block _).trans (aV hQ2 p 2 _ (by omega))) ?_
 have hoY : aF (· = p) Y0 Y := hY.off p 2 _
 refine ⟨(hOY.andThen hoY (U := fun k => k = p \/ D k) (fun _ _ h => h) (fun _ _ h => .inl h)).restored ?_, hT _ _ hTY (hoY.mono fun _ _ h => .inl h)⟩
 rintro k hk (rfl | hD) hnD
 . have h1 := aR hQP 2 (.int .i64 0)
   rw [hY.block, HB.out.cell]
   simpa using h1
 . exact absurd hD hnD
 ) : P := h
theorem aNC (p bm : Nat) (rv : Value) (R : List (Int × Int)) (ks : List Int) (pv : Int -> Value) (Lp : Int -> List Su) (a b s v E : Int) (xt : TypeId) (xv : Value) (F : Nat) (D : Nat -> Prop) (T : World -> Prop) (w : World)
 (a0 : 0 <= a) (a1 : a < 4294967296) (h : (a % 4 != 0) = false) (hB : eZ w p bm rv R ks pv Lp) (hvE : E ≠ 0 -> v = 0)
 (hm : ∀ (n : Nat) (w : World), (method (n + 1) xt xv "Load").run prog w = .ok (F, xv) w) (heg : ∀ args w, (callFunc F args).run prog w = .ok (.enter F args) w) (hfd : fF a (Lp (a / 16777216)) = (.agg #[.int .u32 b, .int .u32 s, .iface xt xv], 0)) (hb0 : 0 <= b) (hba : b <= a) (hDp : ¬ D p) (hDl : ∀ k, D k -> k < w.heap.size)
 (hdev : ∀ w', aF (· = p) w w' -> Calls prog F #[xv, .int .u32 (a - b)] w' fun e w'' => e = .returned (.tuple #[.int .u32 v, .int .i64 E]) /\ aF D w' w'' /\ T w'')
 (hT : ∀ u u', T u -> aF (fun k => k = p \/ w.heap.size <= k) u u' -> T u') :
 Calls prog 106 #[.pointer (some ⟨p, 0, none⟩),   .int .u32 a, .func (.methodOf 182 "Load") #[] #[]] w fun e w' => e = .returned (.tuple #[.int .u32 v, .int .i64 E]) /\ aF D w w' /\ T w' := by
 exact xO
def only (r c : Int) : Bool := (r == 0) && (c == 0)
def Rg.put (x : Rg) (v : Int) : Rg := ⟨stV x.v x.r x.c v, x.s, x.r, x.c⟩
theorem mkf : ∀ (fn : Fn) (first cap : Array Value) (w : World), (Instr.makeFunc fn first cap).run prog w = .ok (.func fn first cap) w := fun _ _ _ _ => rfl
theorem aBv (pa : Option Addr) (a E : Int) (w : World) (hE : (E != 0) = true)
 (hf : ∀ w', Below w.heap.size w w' -> Calls prog 183 #[.pointer pa, .int .u32 a] w' fun e w'' => e = .returned (.tuple #[dR, .int .i64 E]) /\ Below w'.heap.size w' w'') :
 Calls prog 134 #[.pointer pa, .int .u32 a] w fun e w' => e = .returned (.tuple #[.int .u32 0, .int .i64 E]) /\ Below w.heap.size w w' := by
 have hmf := mkf
 go_enter func134, ntmps134
 go_wp2_with fail
 refine (zA pa a E _ _ hE hf).mono ?_
 exact qW
theorem zB (pa : Option Addr) (a E v : Int) (w : World) (hE : (E != 0) = true)
 (hf : ∀ w', Below w.heap.size w w' -> Calls prog 183 #[.pointer pa, .int .u32 a] w' fun e w'' => e = .returned (.tuple #[dR, .int .i64 E]) /\ Below w'.heap.size w' w'') :
 Calls prog 59 #[.pointer pa, .int .u32 a, .int .u32 v] w fun e w' => e = .returned (.int .i64 E) /\ Below w.heap.size w w' := by
 have hmf := mkf
 go_enter func59, ntmps59
 go_wp2_with fail
 refine (zA pa a E _ _ hE (fun w' h => hf w' (tr (aE (aH w) _) h))).mono ?_
 rintro e w1 ⟨rfl, hb⟩
 exact rM
end Go.Proofs.YtaohacadochldaaGreat.B
