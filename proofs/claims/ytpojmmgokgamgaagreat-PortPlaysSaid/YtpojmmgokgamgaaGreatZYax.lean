/- A part of the proof of a law of layer 12: ax. -/
import Derived.Test.YtpojmmgokgamgaaGreatZYaw
import Derived.Test.YtpojmmgokgamgaaGreatZYBLay
set_option linter.unusedVariables false
set_option linter.unusedSimpArgs false
set_option maxHeartbeats 12800000
set_option maxRecDepth 100000
namespace Go.Proofs.YtpojmmgokgamgaaGreat.B
open Go.Proofs.Tryz
open Go.ChangeShapes Go.WideShapes Go.RowKit Go.Sort Go.Shelf
theorem xE {α : Type} [Inhabited α] (f : α -> List Value) (k : Nat) (h : ∀ x, (f x).length = k) (d : Array α) : (flatK f k d).toList = d.toList.flatMap f := by
 apply List.ext_getElem?
 intro t
 by_cases ht : t < d.size * k
 . have hk : 0 < k := by
    rcases Nat.eq_zero_or_pos k with h0 | h0
    . subst h0; simp at ht
    . exact h0
   have hq : t / k < d.size := Nat.div_lt_of_lt_mul (by rwa [Nat.mul_comm])
   have h1 := oL f k h d.toList (t / k) (t % k) d[t / k] (by simp [hq]) (Nat.mod_lt _ hk)
   have h2 := get_flatK f k d t ht
   have hlen : t < (flatK f k d).size := by rw [size_flatK]; exact ht
   rw [getElem!_pos _ t hlen] at h2
   rw [Array.getElem?_toList, Array.getElem?_eq_getElem hlen, h2, getElem!_pos d (t / k) hq]
   have e1 : t / k * k + t % k = t := by rw [Nat.mul_comm]; exact Nat.div_add_mod t k
   rw [e1] at h1
   rw [h1]
   have : t % k < (f d[t / k]).length := by rw [h]; exact Nat.mod_lt _ hk
   rw [getElem!_pos (f d[t / k]) (t % k) this, List.getElem?_eq_getElem this]
 . rw [List.getElem?_eq_none (by simp; omega), List.getElem?_eq_none (by rw [iP f k h]; simp; omega)]
theorem aEI {w : World} {g n : Nat} {os : Array Obj} {cur : Array Value} {e : TypeId} {fr : Nat × Nat} (d : Array Value) (hb : w.heap[g]? = some (.cells cur e fr)) :
 (grow (putRow id (Sort.ahead w n) g 0 d) os).heap[g]? = some (.cells (putCells id 0 d cur) e fr) := by
 have hg : g < w.heap.size := lt_of_block hb
 rw [heap_grow_old _ _ (by simpa using hg)]
 simp [putRow, mapBlock, Sort.ahead, Array.getElem?_modify, hb, onCells]
theorem aFo {S : Nat -> Prop} {w : World} {g n : Nat} {os : Array Obj} (d : Array Value) (hS : S g) : aF S w (grow (putRow id (Sort.ahead w n) g 0 d) os) := by
 refine ⟨rfl, rfl, rfl, by simp, fun k hk hne => ?_⟩
 rw [heap_grow_old _ _ (by simpa using hk)]
 have : g ≠ k := fun e => hne (by rw [<- e]; exact hS)
 simp [putRow, mapBlock, Sort.ahead, Array.getElem?_modify, this]
theorem aDx (cur : Array Value) (ts : Array Value) (h : ts.size <= cur.size) : (putCells id 0 ts cur).toList.take ts.size = ts.toList := by
 apply List.ext_getElem?
 intro j
 by_cases hj : j < ts.size
 . rw [List.getElem?_take_of_lt hj, Array.getElem?_toList]
   simp [putCells, hj, show j < cur.size by omega]
 . rw [List.getElem?_take_eq_none (by omega), List.getElem?_eq_none (by simp; omega)]
theorem aEb {α : Type} [Inhabited α] {f : α -> List Value} {k : Nat} (hf : ∀ x, (f x).length = k) {w : World} {base g cap n : Nat} {e : TypeId} {os : Array Obj} {L : List α} {d : Array α} (hd : d.size = L.length)
 (ho : w.ownsRow base e k (.slice (some ⟨g, 0, none⟩) L.length cap) L.length (L.flatMap f)) : (sortWorldK f k w g 0 n d os).ownsRow base e k (.slice (some ⟨g, 0, none⟩) L.length cap) L.length (d.toList.flatMap f) := by
 rcases ho.2 with ⟨h1, _⟩ | ⟨g', cap', cur, h1, h2, h3, h4, h5, h6, h7⟩
 . cases h1
 . obtain ⟨⟨rfl⟩, _, rfl⟩ : (Addr.mk g 0 none = Addr.mk g' 0 none) /\ True /\ cap = cap' := by simp at h1; exact ⟨by rw [h1.1], trivial, h1.2⟩
   refine ⟨by rw [iP f k hf]; simp [hd], .inr ⟨g, cap, _, rfl, h2, aEI _ h3, h4, h5, by simp [putCells, h6], ?_⟩⟩
   have hs : (flatK f k d).size = L.length * k := by rw [size_flatK, hd]
   rw [<- hs, aDx _ _ (by rw [hs, h6]; exact Nat.mul_le_mul_right _ h4), xE f k hf]
theorem aDo {α : Type} [Inhabited α] {f : α -> List Value} {k : Nat} (hf : ∀ x, (f x).length = k) {w : World} {base g cap : Nat} {e : TypeId} {L : List α} (ho : w.ownsRow base e k (.slice (some ⟨g, 0, none⟩) L.length cap) L.length (L.flatMap f)) :
 HoldsK f k w g 0 L.toArray := by
 intro j hj
 have hj' : j < L.length * k := by simpa using hj
 have h1 := ho.cellAt j hj'
 have h2 := ho.frozenAt j
 rw [Nat.zero_add, h1, h2]
 refine ⟨?_, rfl⟩
 rw [getElem!_pos _ j hj]
 have := xE f k hf L.toArray
 have hl : j < (L.flatMap f).length := by rw [iP f k hf]; exact hj'
 rw [List.getElem?_eq_getElem hl]
 simp only [id, Option.some.injEq]
 have h3 : (flatK f k L.toArray).toList[j]? = (L.flatMap f)[j]? := by rw [this]
 rw [List.getElem?_eq_getElem hl, Array.getElem?_toList, Array.getElem?_eq_getElem hj] at h3
 exact (Option.some.inj h3).symm
theorem aOG (x y : Int × Int) (W : World) : Calls prog 171 #[.agg #[.int .u32 x.1, .int .u32 x.2], .agg #[.int .u32 y.1, .int .u32 y.2]] W
 fun e w' => e = .returned (.int .i64 (rO x.1 y.1)) /\ ∃ q os', w' = grow (W.drewN q) os' := by
 go_enter func171, ntmps171
 go_wp2_with (go_at_call 172; refine (aFp _ _ _).mono ?_; rintro e w' ⟨rfl, rfl⟩)
 go_ret
 exact ⟨rfl, 0, _, by rw [alloc_eq_grow, alloc_eq_grow, grow_grow]; rfl⟩
theorem aC3 (x y : Int × Int) : ltOf (fun x y : Int × Int => rO x.1 y.1) x y = decide (x.1 < y.1) := by
 unfold ltOf rO
 by_cases h1 : x.1 < y.1
 . simp [h1]
 . by_cases h2 : y.1 < x.1 <;> simp [h1, h2]
theorem aLE : SWO (ltOf fun x y : Int × Int => rO x.1 y.1) where
 irrefl x := by rw [aC3]; simp
 trans x y z h1 h2 := by rw [aC3] at *; simp at *; omega
 ntrans x y z h1 h2 := by rw [aC3] at *; simp at *; omega
theorem aNf (R : List (Int × Int)) (g cap : Nat) (w : World) (ho : w.ownsRow 0 119 2 (.slice (some ⟨g, 0, none⟩) R.length cap) R.length (R.flatMap bK)) (hs : R.length < 4611686018427387904) :
 Calls prog 170 #[.slice (some ⟨g, 0, none⟩) R.length cap, .func (.func 171) #[] #[]] w
  fun e w' => e = .returned (.tuple #[]) /\ ∃ R' : List (Int × Int), R'.Perm R /\ R'.Pairwise (fun x y => x.1 <= y.1) /\ w'.ownsRow 0 119 2 (.slice (some ⟨g, 0, none⟩) R.length cap) R.length (R'.flatMap bK) /\ aF (· = g) w w' := by
 have eg : ∀ args w, (callFunc 171 args).run prog w = .ok (.enter 171 args) w := enters_of func171 (by kernel_rfl) rfl
 have hcon := AnyQ.slices_SortFunc Tryz.sortReg 2 Tryz.isAgg119 Tryz.sizeOf119 bK (fun _ => rfl) (fun x v hv => by simp [bK] at hv; rcases hv with rfl | rfl <;> rfl) (fun x y => rO x.1 y.1) aLE
  171 #[] g 0 cap R.toArray w eg (fun _ _ _ _ x y => aOG x y _) (aDo (f := bK) (k := 2) (fun _ => rfl) ho) (ho.lt g rfl).2 (by simpa using hs)
 change Calls prog 170 _ _ _ at hcon
 simp only [List.size_toArray] at hcon
 refine hcon.mono ?_
 rintro e w' ⟨rfl, d', n, os, hp, hsd, rfl⟩
 obtain ⟨p1, p2, p3⟩ := hp
 refine ⟨rfl, d'.toList, ?_, ?_, aEb (f := bK) (k := 2) (fun _ => rfl) (by simpa using p1) ho, aFo _ rfl⟩
 . have : d'.extract 0 R.length = d' := by
    rw [show R.length = d'.size by simpa using p1.symm]; simp
   rw [this] at p3
   simpa using p3
 . rw [List.pairwise_iff_getElem]
   intro i j hi hj hij
   have := hsd i j (Nat.zero_le _) hij (by
    have : d'.size = R.length := by simpa using p1
    simp at hj; omega)
   rw [aC3] at this
   simp at hi hj
   rw [getElem!_pos d' i (by omega), getElem!_pos d' j (by omega)] at this
   simp at this
   simpa using this
theorem aLj (b s : Int) (B : Nat) (w : World) (b0 : 0 <= b) (b1 : b < 4294967296) (s0 : 0 <= s) (s1 : s < 4294967296) (hB : B < w.heap.size) (h0 : w.cell? ⟨B, 0, none⟩ = some (.int .u32 b)) (h1 : w.cell? ⟨B, 1, none⟩ = some (.int .u32 s))
 (x : Int × Int) (hx : (0 <= x.1 /\ x.1 < 4294967296) /\ 0 <= x.2 /\ x.2 < 4294967296) (W : World) (hb : Below w.heap.size w W) :
 Calls prog 167 #[.agg #[.int .u32 x.1, .int .u32 x.2], .pointer (some ⟨B, 0, none⟩)] W fun e w' => e = .returned (.bool (zT b s x.1 x.2)) /\ Below w.heap.size w w' := by
 obtain ⟨c, t⟩ := x
 obtain ⟨⟨c0, c1⟩, t0, t1⟩ := hx
 simp only at c0 c1 t0 t1
 have hc0 : W.cell? ⟨B, 0, none⟩ = some (.int .u32 b) := (hb.cell (p := ⟨B, 0, none⟩) hB).trans h0
 have hc1 : W.cell? ⟨B, 1, none⟩ = some (.int .u32 s) := (hb.cell (p := ⟨B, 1, none⟩) hB).trans h1
 have hBW : B < W.heap.size := Nat.lt_of_lt_of_le hB hb.size
 have hne : B ≠ W.heap.size := by omega
 have HB := Hd hb
 clear h0 h1 hb
 go_enter func167, ntmps167
 go_wp2_with fail
 refine (aNQ b s c t _ b0 b1 s0 s1 c0 c1 t0 t1).mono ?_
 rintro e w1 ⟨rfl, hb1⟩
 go_wp2_with fail
 go_ret
 exact ⟨rfl, (HB.out.alloc HB.out.size _).trans (hb1.mono (Nat.le_trans HB.out.size (by simp)))⟩
theorem aHs (F : Value) (w : World) :
 Calls prog 166 #[.slice none 0 0, F] w fun e w' => e = .returned (.bool false) /\ w = w' := by
 have h1 : Calls prog 207 #[.slice none 0 0, F] w fun e w' => e = .returned (.int .i64 (-1)) /\ w = w' := by
  go_enter func207, ntmps207
  go_wp2_with fail
  refine wp_loop_rounds 1 ?_
  rw [rounds_succ]
  exact aR
 go_enter func166, ntmps166
 go_wp2_with fail
 refine h1.mono ?_
 rintro e w1 ⟨rfl, rfl⟩
 exact aR
def kZ (b s : Int) (R : List (Int × Int)) : Bool := R.any fun x => zT b s x.1 x.2
abbrev U32 := { n : Int // 0 <= n /\ n < 4294967296 }
instance : Inhabited (U32 × U32) := ⟨⟨0, by omega⟩, ⟨0, by omega⟩⟩
def aMw (x : U32 × U32) : List Value := bK (x.1.1, x.2.1)
theorem aOu (b s : Int) (B : Nat) (R : List (Int × Int)) (g cap : Nat) (w : World) (b0 : 0 <= b) (b1 : b < 4294967296) (s0 : 0 <= s) (s1 : s < 4294967296) (hB : B < w.heap.size) (h0 : w.cell? ⟨B, 0, none⟩ = some (.int .u32 b)) (h1 : w.cell? ⟨B, 1, none⟩ = some (.int .u32 s))
 (hR : ∀ x ∈ R, (0 <= x.1 /\ x.1 < 4294967296) /\ 0 <= x.2 /\ x.2 < 4294967296) (hn : R.length <= 9223372036854775807)
 (ho : w.ownsRow 0 119 2 (.slice (some ⟨g, 0, none⟩) R.length cap) R.length (R.flatMap bK)) :
 Calls prog 166 #[.slice (some ⟨g, 0, none⟩) R.length cap, .func (.func 167) #[] #[.pointer (some ⟨B, 0, none⟩)]] w
  fun e w' => e = .returned (.bool (kZ b s R)) /\ Below w.heap.size w w' := by
 have eg : ∀ args w, (callFunc 167 args).run prog w = .ok (.enter 167 args) w := enters_of func167 (by kernel_rfl) rfl
 obtain ⟨U, hU⟩ : ∃ U : List (U32 × U32), U.map (fun x => (x.1.1, x.2.1)) = R := by
  refine ⟨R.pmap (fun x (hx : (0 <= x.1 /\ x.1 < 4294967296) /\ 0 <= x.2 /\ x.2 < 4294967296) => (⟨x.1, hx.1⟩, ⟨x.2, hx.2⟩)) hR, ?_⟩
  rw [List.map_pmap]
  simp
 have hl : U.length = R.length := by rw [<- hU]; simp
 have hcon := AnyQ.slices_ContainsFunc Tryz.anyReg 2 Tryz.isAgg119 Tryz.sizeOf119 aMw (fun _ => rfl) (fun x => zT b s x.1.1 x.2.1) 167 #[.pointer (some ⟨B, 0, none⟩)] eg g 0 R.length cap U w
  (fun W x hb => aLj b s B w b0 b1 s0 s1 hB h0 h1 (x.1.1, x.2.1) ⟨x.1.2, x.2.2⟩ W hb) (by omega) hn (ho.lt g rfl).2 (fun j hj i v hi => by
    have hjr : j < R.length := by omega
    have hi2 : i < 2 := by
     have := (List.getElem?_eq_some_iff.1 hi).1
     simpa [aMw, bK] using this
    have := pJ (f := bK) (n := 2) (fun _ => rfl) ho rfl (k := j) (x := R[j]) (List.getElem?_eq_getElem hjr) i hi2
    rw [Nat.zero_add, this]
    rw [getElem!_pos U j hj] at hi
    have e1 : R[j] = (U[j].1.1, U[j].2.1) := by simp [<- hU]
    rw [e1]
    exact hi)
 change Calls prog 166 _ _ _ at hcon
 refine hcon.mono ?_
 rintro e w' ⟨rfl, hb⟩
 refine ⟨bX ?_, hb⟩
 unfold kZ
 rw [<- hl, List.take_length, <- hU, List.any_map]
 rfl
theorem aEa : aAj := fun R g cap w ho hs => aNf R g cap w ho hs
theorem aNT (p bm : Nat) (rv : Value) (R : List (Int × Int)) (ks : List Int) (pv : Int -> Value) (Lp : Int -> List Su) (b s : Int) (v : Bool) (w : World) (hB : eK w p bm rv R ks pv Lp) (hn : R.length < 64) (hR : ∀ x ∈ R, (0 <= x.1 /\ x.1 < 4294967296) /\ 0 <= x.2 /\ x.2 < 4294967296)
 (b0 : 0 <= b) (b1 : b < 4294967296) (s0 : 0 <= s) (s1 : s < 4294967296) (hv : kZ b s R = v) :
 Calls prog 95 #[.pointer (some ⟨p, 0, none⟩), .agg #[.int .u32 b, .int .u32 s]] w fun e w' => e = .returned (.int .i64 (if v then 15 else 0)) /\ Below w.heap.size w w' := by
 have hmf : ∀ (fn : Fn) (first cap : Array Value) (w : World), (Instr.makeFunc fn first cap).run prog w = .ok (.func fn first cap) w := fun _ _ _ _ => rfl
 have hc := aA hB.cell 0
 simp only [List.getElem?_toArray, List.getElem?_cons_zero] at hc
 have hlt := hB.ltp
 rcases fR hB.regs with ⟨h1, h2⟩ | ⟨g, cap, h1, h2, h3, _⟩
 . subst h1
   have : R = [] := List.eq_nil_of_length_eq_zero h2
   subst this
   have : v = false := by rw [<- hv]; rfl
   subst this
   clear hB
   go_enter func95, ntmps95
   go_wp2_with fail
   refine (aHs _ _).mono ?_
   rintro e w1 ⟨rfl, rfl⟩
   go_wp2_with fail
   go_ret
   exact ⟨rfl, aE (aI w) _⟩
 . subst h1
   have hi : ¬ (64 : Int) <= (R.length : Int) := by omega
   have hreg := hB.regs.alloc (.cells #[.int .u32 b, .int .u32 s] 119)
   have hbx0 := aA (aD w (.cells #[.int .u32 b, .int .u32 s] 119)) 0
   have hbx1 := aA (aD w (.cells #[.int .u32 b, .int .u32 s] 119)) 1
   have hany := aOu b s w.heap.size R g cap (w.alloc (.cells #[.int .u32 b, .int .u32 s] 119)) b0 b1 s0 s1 (by simp) hbx0 hbx1 hR (by omega) hreg
   rw [hv] at hany
   have HR := Hd hR
   clear hB hreg hbx0 hbx1 hR hv
   cases v
   all_goals
    go_enter func95, ntmps95
    go_wp2_with fail
    refine hany.mono ?_
    rintro e w1 ⟨rfl, hb⟩
    go_wp2_with fail
    go_ret
    exact ⟨rfl, tr (aE (aI w) _) hb⟩
theorem aOj (w : World) :
 Calls prog 52 #[] w fun e w' => e = .returned (.pointer (some ⟨w.heap.size + 1, 0, none⟩)) /\ eK w' (w.heap.size + 1) w.heap.size (.slice none 0 0) [] [] (fun _ => .slice none 0 0) (fun _ => []) /\ Below w.heap.size w w' := by
 have hmm := @run_makeMap prog
 go_enter func52, ntmps52
 go_wp2_with fail
 go_ret
 refine ⟨rfl, ⟨?_, World.ownsRow_nil _ _ _ _, ?_, fun _ h => (by cases h), fun _ _ => rfl, fun _ h => (by cases h), fun _ _ h => (by cases h), by simp, fun _ => by simp⟩, (((Below.refl _ _).alloc (Nat.le_refl _) _).alloc (by simp) _)⟩
 . exact bL w _ _
 . exact (qO w ek lF).kept (aX _ _ (by simp))
theorem aIN (p bm : Nat) (rv : Value) (R : List (Int × Int)) (ks : List Int) (pv : Int -> Value) (Lp : Int -> List Su) (b s : Int) (xt : TypeId) (xv : Value) (w : World) (hB : eK w p bm rv R ks pv Lp) (hn : R.length < 64) (hx : Su.wf ⟨b, s, xt, xv⟩)
 (hR : ∀ x ∈ R, (0 <= x.1 /\ x.1 < 4294967296) /\ 0 <= x.2 /\ x.2 < 4294967296) (hm : kZ b s R = false) (h1 : (b % 4 != 0) = false) (h2 : (s % 4 != 0) = false) :
 Calls prog 54 #[.pointer (some ⟨p, 0, none⟩), .agg #[.int .u32 b, .int .u32 s], .iface xt xv] w fun e w' => e = .returned (.int .i64 0) /\ aMB p bm rv R ks pv Lp ⟨b, s, xt, xv⟩ w w' := by
 have hx' := hx
 obtain ⟨x0, ⟨x1, x1'⟩, x2⟩ := hx'
 simp only at x0 x1 x1' x2
 have h3 : (s == 0) = false := by simp; omega
 have HR := Hd hR
 have HM := Hd hm
 clear hR hm
 go_enter func54, ntmps54
 go_wp2_with fail
 refine (aLJ b s _ x0 (by omega) (by omega) (by omega) h1 h2 h3 (by omega)).mono ?_
 rintro e w1 ⟨rfl, hb1⟩
 have hX := aC hb1 (aD w _) (by simp)
 have hx0 := aA hX 0
 have hx1 := aA hX 1
 simp only [List.getElem?_toArray, List.getElem?_cons_zero, List.getElem?_cons_succ] at hx0 hx1
 have hbw := tr (aE (aI w) _) hb1
 have hl1 := lt_of_block hX
 have HX := Hd hX
 clear hX hb1
 go_wp2_with fail
 refine (aNT p bm rv R ks pv Lp b s false _ (hB.ofBelow hbw) hn HR.out x0 (by omega) (by omega) (by omega) HM.out).mono ?_
 rintro e w2 ⟨rfl, hb2⟩
 have hX2 := aC hb2 HX.out hl1
 have hy0 := aA hX2 0
 have hy1 := aA hX2 1
 simp only [List.getElem?_toArray, List.getElem?_cons_zero, List.getElem?_cons_succ] at hy0 hy1
 have hbw2 := tr hbw hb2
 clear hX2 hb2
 simp only [Bool.false_eq_true, if_false]
 go_wp2_with fail
 refine (aOl aEa p bm rv R ks pv Lp b s xt xv _ (hB.ofBelow hbw2) hn hx).mono ?_
 rintro e w3 ⟨rfl, rv', R', ks', pv', hB', hp', hs', ho', hk'⟩
 have HB := Hd hB'
 have HP := Hd hp'
 have HS := Hd hs'
 have HO := Hd ho'
 have HK := Hd hk'
 clear hB' hp' hs' ho' hk'
 go_wp2_with fail
 go_ret
 exact ⟨rfl, rv', R', ks', pv', HB.out, HP.out, HS.out, (aF.ofBelow hbw2).trans (HO.out.mono fun _ _ h => h), fun k hk => (HK.out k hk).imp id fun h => Nat.le_trans hbw2.size h⟩
end Go.Proofs.YtpojmmgokgamgaaGreat.B
