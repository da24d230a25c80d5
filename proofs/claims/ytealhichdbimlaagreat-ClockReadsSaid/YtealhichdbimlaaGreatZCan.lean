/- A part of the proof of a law of layer 12: an. -/
import Derived.Test.YtealhichdbimlaaGreatZCam
import Derived.Shelf.SlMaps.Clone
set_option linter.unusedVariables false
set_option linter.unusedSimpArgs false
set_option maxHeartbeats 12800000
set_option maxRecDepth 100000
namespace Go.Proofs.YtealhichdbimlaaGreat.B
open Go.Proofs.Tryz
open Go.ChangeShapes Go.WideShapes Go.RowKit Go.Sort Go.MapKept
theorem aJX (p bm : Nat) (rv : Value) (R : List (Int × Int)) (ks : List Int) (pv : Int -> Value) (Lp : Int -> List Su) (a b s v E : Int) (xt : TypeId) (xv : Value) (vb : Nat) (D : Nat -> Prop) (T : World -> Prop) (w : World)
 (a0 : 0 <= a) (a1 : a < 4294967296) (h : (a % 4 != 0) = false) (hB : eQ w p bm rv R ks pv Lp) (hvE : E ≠ 0 -> v = 0) (hfd : eT a (Lp (a / 16777216)) = (.agg #[.int .u32 b, .int .u32 s, .iface xt xv], 0)) (hb0 : 0 <= b) (hba : b <= a) (hDp : ¬ D p) (hDl : ∀ k, D k -> k < w.heap.size)
 (hdev : ∀ w', aF (· = p) w w' -> Calls prog 102 #[.iface xt xv, .int .u32 (a - b), .pointer (some ⟨vb, 0, none⟩)] w' fun e w'' => e = .returned (.tuple #[.int .u32 v, .int .i64 E]) /\ aF D w' w'' /\ T w'')
 (hT : ∀ u u', T u -> aF (fun k => k = p \/ w.heap.size <= k) u u' -> T u') :
 Calls prog 101 #[.pointer (some ⟨p, 0, none⟩),   .int .u32 a, .func (.func 102) #[] #[.pointer (some ⟨vb, 0, none⟩)]] w fun e w' => e = .returned (.tuple #[.int .u32 v, .int .i64 E]) /\ aF D w w' /\ T w' := by
 exact xF
theorem aNC (off v E : Int) (xt : TypeId) (xv : Value) (G vb : Nat) (D : Nat -> Prop) (T : World -> Prop) (w : World)
 (hm : ∀ (n : Nat) (w : World), (method (n + 1) xt xv "Store").run prog w = .ok (G, xv) w) (heg : ∀ args w, (callFunc G args).run prog w = .ok (.enter G args) w)
 (hv : w.cell? ⟨vb, 0, none⟩ = some (.int .u32 v)) (hdev : Calls prog G #[xv, .int .u32 off, .int .u32 v] w fun e w' => e = .returned (.int .i64 E) /\ aF D w w' /\ T w') :
 Calls prog 102 #[.iface xt xv, .int .u32 off, .pointer (some ⟨vb, 0, none⟩)] w
  fun e w' => e = .returned (.tuple #[.int .u32 0, .int .i64 E]) /\ aF D w w' /\ T w' := by
 go_enter func102, ntmps102
 go_wp2_with fail
 refine hdev.mono ?_
 rintro e w1 ⟨rfl, h1, h2⟩
 go_wp2_with fail
 go_ret2
 exact ⟨rfl, h1, h2⟩
section
variable (p bm : Nat) (rv : Value) (R : List (Int × Int)) (ks : List Int) (pv : Int -> Value) (Lp : Int -> List Su) (a b s v E : Int) (xt : TypeId) (xv : Value) (F : Nat)
theorem yP (D : Nat -> Prop) (T : World -> Prop) (w : World)
 (a0 : 0 <= a) (a1 : a < 4294967296) (h : (a % 4 != 0) = false) (hB : eQ w p bm rv R ks pv Lp) (hvE : E ≠ 0 -> v = 0)
 (hm : ∀ (n : Nat) (w : World), (method (n + 1) xt xv "Load").run prog w = .ok (F, xv) w) (heg : ∀ args w, (callFunc F args).run prog w = .ok (.enter F args) w)
 (hfd : eT a (Lp (a / 16777216)) = (.agg #[.int .u32 b, .int .u32 s, .iface xt xv], 0)) (hb0 : 0 <= b) (hba : b <= a) (hDp : ¬ D p) (hDl : ∀ k, D k -> k < w.heap.size)
 (hdev : ∀ w', aF (· = p) w w' -> Calls prog F #[xv, .int .u32 (a - b)] w' fun e w'' => e = .returned (.tuple #[.int .u32 v, .int .i64 E]) /\ aF D w' w'' /\ T w'')
 (hT : ∀ u u', T u -> aF (fun k => k = p \/ w.heap.size <= k) u u' -> T u') :
 Calls prog 130 #[.pointer (some ⟨p, 0, none⟩), .int .u32 a] w fun e w' => e = .returned (.tuple #[.int .u32 v, .int .i64 E]) /\ aF D w w' /\ T w' := by
 have hmf := mkf
 have HR := Hd (aNF p bm rv R ks pv Lp a b s v E xt xv F D T w a0 a1 h hB hvE hm heg hfd hb0 hba hDp hDl hdev hT)
 clear hB hvE hm heg hfd hDp hDl hdev hT
 go_enter func130, ntmps130
 go_wp2_with fail
 refine HR.out.mono ?_
 rintro e w1 ⟨rfl, ho, hT⟩
 go_wp2_with fail
 go_ret2
 exact ⟨rfl, ho, hT⟩
theorem rS (D : Nat -> Prop) (T : World -> Prop) (w : World)
 (a0 : 0 <= a) (a1 : a < 4294967296) (h : (a % 4 != 0) = false) (hB : eQ w p bm rv R ks pv Lp)
 (hm : ∀ (n : Nat) (w : World), (method (n + 1) xt xv "Store").run prog w = .ok (F, xv) w) (heg : ∀ args w, (callFunc F args).run prog w = .ok (.enter F args) w)
 (hfd : eT a (Lp (a / 16777216)) = (.agg #[.int .u32 b, .int .u32 s, .iface xt xv], 0)) (hb0 : 0 <= b) (hba : b <= a) (hDp : ¬ D p) (hDl : ∀ k, D k -> k < w.heap.size)
 (hdev : ∀ w', aF (fun k => k = p \/ w.heap.size <= k) w w' -> Calls prog F #[xv, .int .u32 (a - b), .int .u32 v] w' fun e w'' => e = .returned (.int .i64 E) /\ aF D w' w'' /\ T w'')
 (hT : ∀ u u', T u -> aF (fun k => k = p \/ w.heap.size <= k) u u' -> T u') :
 Calls prog 46 #[.pointer (some ⟨p, 0, none⟩), .int .u32 a, .int .u32 v] w fun e w' => e = .returned (.int .i64 E) /\ aF D w w' /\ T w' := by
 have hmf := mkf
 have hpl := hB.ltp
 have HR := Hd (aJX p bm rv R ks pv Lp a b s 0 E xt xv w.heap.size D T (w.alloc (.cells #[.int .u32 v] 27)) a0 a1 h (hB.ofBelow (aE (aI w) _)) (fun _ => rfl) hfd hb0 hba hDp (fun k hk => by have := hDl k hk; simp; omega)
  (fun w' ho => aNC (a - b) v E xt xv F w.heap.size D T w' hm heg (by rw [ho.cell (by simp) (by show ¬ w.heap.size = p; omega)]; exact aA (aD w (.cells #[.int .u32 v] 27)) 0)
    (hdev w' ((aF.ofAlloc w _).trans (ho.mono fun _ _ h => .inl h))))
  (fun u u' hu ho => hT u u' hu (ho.mono fun k _ h => h.imp id fun h => by simp at h; omega)))
 clear hB hm heg hfd hDp hDl hdev hT
 go_enter func46, ntmps46
 go_wp2_with fail
 refine HR.out.mono ?_
 rintro e w1 ⟨rfl, ho, hT⟩
 go_wp2_with fail
 go_ret
 exact ⟨rfl, (aF.ofAlloc w _).trans ho, hT⟩
end
theorem aAV (w : World) : (zeroValue 301).run prog w = .ok (.agg #[.int .i64 0, .int .i64 0]) w := by kernel_rfl
theorem qI {P : Prop} (h : P := by
 simp [results, results272, go_sem]
 ) : P := h
theorem aAl (o : Int) (p : Nat) (w : World) (o0 : 0 <= o) (h : (o % 4 != 0) = true) :
 Calls prog 272 #[.pointer (some ⟨p, 0, none⟩), .int .u32 o] w fun e w' => e = .returned (.tuple #[.agg #[.int .i64 0, .int .i64 0], .int .i64 11]) /\ Below w.heap.size w w' := by
 go_enter func272, ntmps272
 go_wp2_with fail
 refine bodyPost_ret (v := .tuple #[.agg #[.int .i64 0, .int .i64 0], .int .i64 11]) ?_ rfl ?_
 . exact qI
 . exact ⟨rfl, aE (aI w) _⟩
theorem xL (o t : Int) (n : Nat) (D S : Nat -> Int) (p m : Nat) (w : World) (hc : dR w p m t n D S) (o0 : 0 <= o) (o1 : o < 4294967296) (h : (o % 4 != 0) = false) (hno : ∀ q ∈ pD n, q.1 ≠ o) :
 Calls prog 272 #[.pointer (some ⟨p, 0, none⟩), .int .u32 o] w fun e w' => e = .returned (.tuple #[.agg #[.int .i64 0, .int .i64 0], .int .i64 10]) /\ Below w.heap.size w w' := by
 have c := hc.cM
 have hM := hc.map.kept (aY w (.cells #[.int .i64 0, .int .i64 0] 301) hc.ltm)
 have hl := hc.ltp
 clear hc
 go_enter func272, ntmps272
 go_wp2_with (at_lookup; refine vE fU rfl _ _ _ rfl underlying166 rfl hM o _ rfl hno ⟨o0, o1⟩ (aAV _) ?_)
 refine bodyPost_ret (v := .tuple #[.agg #[.int .i64 0, .int .i64 0], .int .i64 10]) ?_ rfl ?_
 . exact qI
 . exact ⟨rfl, aE (aE (aI w) _) _⟩
theorem aAk (o t k h : Int) (n : Nat) (D S : Nat -> Int) (p m : Nat) (w : World) (hc : dR w p m t n D S) (o0 : 0 <= o) (o4 : (o % 4 != 0) = false) (hin : (o, eK k h) ∈ pD n) :
 Calls prog 272 #[.pointer (some ⟨p, 0, none⟩), .int .u32 o] w fun e w' => e = .returned (.tuple #[.agg #[.int .i64 k, .int .i64 h], .int .i64 0]) /\ Below w.heap.size w w' := by
 have c := hc.cM
 have hM := hc.map.kept (aY w (.cells #[.int .i64 0, .int .i64 0] 301) hc.ltm)
 have hl := hc.ltp
 clear hc
 unfold eK at hin
 go_enter func272, ntmps272
 go_wp2_with (at_lookup; refine vM fU rfl _ _ _ rfl underlying166 rfl hM o _ rfl hin ?_)
 refine bodyPost_ret (v := .tuple #[.agg #[.int .i64 k, .int .i64 h], .int .i64 0]) ?_ rfl ?_
 . exact qI
 . exact ⟨rfl, aE (aE (aI w) _) _⟩
def tY (t : Int) (D S : Nat -> Int) (k h : Nat) : Int := match k with
 | 0 => S h
 | 1 => lo (D h)
 | 2 => hi (D h)
 | 3 => lo t
 | _ => hi t
theorem vS {P : Prop} (h : P := by
 refine wpQuiet_nil ?_
 intro _ hw'
 obtain ⟨⟨dq, osq⟩, hw''⟩ := hw'
 subst hw''
 go_wp2_with fail
 go_ret
 exact ⟨rfl, trG (aE (aI w) _) _ _⟩
 ) : P := h
theorem aLI (t : Int) (k h n : Nat) (D S : Nat -> Int) (p m : Nat) (w : World) (hc : dR w p m t n D S) (hk : k < 5) (hh : h < 8) :
 Calls prog 273 #[.pointer (some ⟨p, 0, none⟩), .agg #[.int .i64 k, .int .i64 h]] w fun e w' => e = .returned (.int .u32 (tY t D S k h)) /\ Below w.heap.size w w' := by
 have hg := bJ
 have hl1 : w.heap.size < w.heap.size + 1 := by omega
 have hl2 : p < w.heap.size + 1 := by have := hc.ltp; omega
 have c0 := hc.c0
 have cD := hc.cD h hh
 have cS := hc.cS h hh
 have hl := hc.ltp
 have t0 := hc.t0
 have t1 := hc.t1
 obtain ⟨d0, d1⟩ := hc.d h
 clear hc
 obtain rfl | rfl | rfl | rfl | rfl : k = 0 \/ k = 1 \/ k = 2 \/ k = 3 \/ k = 4 := by omega
 . rw [show tY t D S 0 h = S h from rfl]
   go_enter func273, ntmps273
   go_wp2_with fail
   go_quiet (fail)
   go_wp2_with fail
   go_ret
   exact ⟨rfl, uX (aE (aI w) _) _⟩
 . rw [show tY t D S 1 h = lo (D h) from rfl]
   go_enter func273, ntmps273
   go_wp2_with fail
   refine wp_region_quiet_below (by kernel_rfl) (by kernel_rfl) ?_
   repeat (go_big_quiet_step (first | (go_at_call 163; exact Calls.regrown_of ((Lo _ _ d0 d1).mono fun _ _ h => ⟨h.1, h.2 ▸ aI _⟩))))
   exact vS
 . rw [show tY t D S 2 h = hi (D h) from rfl]
   go_enter func273, ntmps273
   go_wp2_with fail
   refine wp_region_quiet_below (by kernel_rfl) (by kernel_rfl) ?_
   repeat (go_big_quiet_step (first | (go_at_call 229; exact Calls.regrown_of ((Hi _ _ d0 d1).mono fun _ _ h => ⟨h.1, h.2 ▸ aI _⟩))))
   exact vS
 . rw [show tY t D S 3 h = lo t from rfl]
   go_enter func273, ntmps273
   go_wp2_with (go_at_call 163; refine (Lo _ _ t0 t1).mono ?_; rintro e w' ⟨rfl, rfl⟩)
   go_ret
   exact ⟨rfl, aE (aI w) _⟩
 . rw [show tY t D S 4 h = hi t from rfl]
   go_enter func273, ntmps273
   go_wp2_with (go_at_call 229; refine (Hi _ _ t0 t1).mono ?_; rintro e w' ⟨rfl, rfl⟩)
   go_ret
   exact ⟨rfl, aE (aI w) _⟩
theorem pI (o t : Int) (k h n : Nat) (D S : Nat -> Int) (p m : Nat) (w : World) (hc : dR w p m t n D S) (hk : k < 5) (hh : h < 8) (o0 : 0 <= o) (o4 : (o % 4 != 0) = false) (hin : (o, eK k h) ∈ pD n) :
 Calls prog 269 #[.pointer (some ⟨p, 0, none⟩), .int .u32 o] w fun e w' => e = .returned (.tuple #[.int .u32 (tY t D S k h), .int .i64 0]) /\ Below w.heap.size w w' := by
 go_enter func269, ntmps269
 go_wp2_with fail
 refine (aAk o t k h n D S p m _ hc o0 o4 hin).mono ?_
 rintro e w1 ⟨rfl, hb⟩
 have H := Hd (hc.below (aE hb (.cells #[.int .i64 k, .int .i64 h] 301)))
 go_wp2_with fail
 refine (aLI t k h n D S p m _ H.out hk hh).mono ?_
 rintro e w2 ⟨rfl, hb2⟩
 go_wp2_with fail
 go_ret2
 exact ⟨rfl, tr (aE hb _) hb2⟩
theorem aA4 {n h : Nat} (hn : h < n) : (4 * (h : Int), eK (0 : Nat) h) ∈ pD n := (nV n _).2 (.inr (.inr ⟨h, hn, .inr (.inr rfl)⟩))
theorem aDb {n h : Nat} (hn : h < n) : (16384 + 8 * (h : Int), eK (1 : Nat) h) ∈ pD n := (nV n _).2 (.inr (.inr ⟨h, hn, .inr (.inl rfl)⟩))
theorem aA2 {n h : Nat} (hn : h < n) : (16384 + 8 * (h : Int) + 4, eK (2 : Nat) h) ∈ pD n := (nV n _).2 (.inr (.inr ⟨h, hn, .inl rfl⟩))
theorem aGM (n : Nat) : (49144, eK (3 : Nat) (0 : Nat)) ∈ pD n := (nV n _).2 (.inr (.inl rfl))
theorem aGL (n : Nat) : (49148, eK (4 : Nat) (0 : Nat)) ∈ pD n := (nV n _).2 (.inl rfl)
theorem aNx (o t : Int) (n : Nat) (D S : Nat -> Int) (p m : Nat) (w : World) (hc : dR w p m t n D S) (o0 : 0 <= o) (o1 : o < 4294967296) :
 Calls prog 269 #[.pointer (some ⟨p, 0, none⟩), .int .u32 o] w fun e w' => e = .returned (.tuple #[.int .u32 (kR t n D S o), .int .i64 (fK n o)]) /\ Below w.heap.size w w' := by
 have n8 := hc.n1
 rcases aB3 n o with h | h | h | ⟨h, hn, e⟩ | ⟨h, hn, e⟩ | ⟨h, hn, e⟩ | ⟨h4, h1, h2, h⟩
 . rw [iZ h, pL (by rw [iZ h]; omega)]
   have h' : (o % 4 != 0) = true := by simpa using h
   go_enter func269, ntmps269
   go_wp2_with fail
   refine (aAl _ _ _ o0 h').mono ?_
   rintro e w1 ⟨rfl, hb⟩
   go_wp2_with fail
   go_ret2
   exact ⟨rfl, aE hb _⟩
 . subst h; rw [aGa, uE]; exact pI _ t 3 0 n D S p m w hc (by omega) (by omega) o0 (by decide) (aGM n)
 . subst h; rw [aF5, tR]; exact pI _ t 4 0 n D S p m w hc (by omega) (by omega) o0 (by decide) (aGL n)
 . subst e; rw [aBX hn n8, mV hn]; exact pI _ t 0 h n D S p m w hc (by omega) (by omega) o0 (ne4 (by omega)) (aA4 hn)
 . subst e; rw [aDj hn n8, pS hn]; exact pI _ t 1 h n D S p m w hc (by omega) (by omega) o0 (ne4 (by omega)) (aDb hn)
 . subst e; rw [aAw hn n8, mN hn]; exact pI _ t 2 h n D S p m w hc (by omega) (by omega) o0 (ne4 (by omega)) (aA2 hn)
 . have he := pW o0 h4 h1 h2 h
   rw [he, pL (by rw [he]; omega)]
   have h' : (o % 4 != 0) = false := by simpa using h4
   have hno := aA3 n o h1 h2 h
   have HN := Hd hno
   clear h4 hno h he
   go_enter func269, ntmps269
   go_wp2_with fail
   refine (xL _ _ _ _ _ _ _ _ hc o0 o1 h' HN.out).mono ?_
   rintro e w1 ⟨rfl, hb⟩
   go_wp2_with fail
   go_ret2
   exact ⟨rfl, aE hb _⟩
theorem aCS (v : Int) (v0 : 0 <= v) : field v 0 1 = v % 2 := by
 unfold field inw
 simp
 omega
def pG (W : World) (x : Nat) (k h : Int) : Prop := W.heap[x]? = some (.cells #[.int .i64 k, .int .i64 h] 301 (0, 0))
theorem pG.c0 {W : World} {x : Nat} {k h : Int} (a : pG W x k h) : W.cell? ⟨x, 0, none⟩ = some (.int .i64 k) := by have := aA a 0; simpa using this
theorem pG.c1 {W : World} {x : Nat} {k h : Int} (a : pG W x k h) : W.cell? ⟨x, 1, none⟩ = some (.int .i64 h) := by have := aA a 1; simpa using this
theorem pG.lt {W : World} {x : Nat} {k h : Int} (a : pG W x k h) : x < W.heap.size := lt_of_block a
theorem aCK (v t : Int) (h n : Nat) (D S : Nat -> Int) (p m : Nat) (w : World) (hc : dR w p m t n D S) (hn : h < n) (v0 : 0 <= v) (v1 : v < 4294967296) :
 Calls prog 270 #[.pointer (some ⟨p, 0, none⟩), .int .u32 (4 * (h : Int)), .int .u32 v] w
  fun e w' => e = .returned (.int .i64 0) /\ dR w' p m t n D (upd S h (v % 2)) /\ aF (· = p) w w' := by
 have n8 := hc.n1
 have hh : h < 8 := by omega
 go_enter func270, ntmps270
 go_wp2_with fail
 refine (aAk (4 * (h : Int)) t 0 h n D S p m _ hc (by omega) (ne4 (by omega)) (aA4 hn)).mono ?_
 rintro e w1 ⟨rfl, hb⟩
 have H := Hd (hc.below (aE hb (.cells #[.int .i64 0, .int .i64 h] 301)))
 have X := aD w1 (.cells #[.int .i64 0, .int .i64 h] 301)
 have HB := Hd (aE hb (.cells #[.int .i64 0, .int .i64 h] 301))
 clear hc hb
 go_upto_region 2 with (fail)
 generalize (w1.alloc (.cells #[.int .i64 0, .int .i64 h] 301)) = W at *
 generalize w1.heap.size = x at *
 have R : pG W x 0 h := X
 have x0 := R.c0
 have x1 := R.c1
 have hx := R.lt
 clear X R
 have hp := H.out.ltp
 have cS := H.out.cS h hh
 have fS := H.out.free (10 + h)
 have hg := bJ
 have hf := cX
 go_wp2_with fail
 refine aG 8 (by kernel_rfl) (by kernel_rfl) ?_
 simp only [List.take_succ_cons, List.take_zero, List.drop_succ_cons, List.drop_zero]
 repeat (go_big_quiet_step (first | (go_at_call 237; exact Calls.regrown_of ((Field v 0 1 _ v0 v1 (by omega) (by omega)).mono fun _ _ g => ⟨g.1, by obtain ⟨_, j, rfl⟩ := g; exact uX (aI _) _⟩))))
 refine wpQuiet_nil ?_
 intro _ hw'
 obtain ⟨⟨dq, osq⟩, hw''⟩ := hw'
 subst hw''
 have hb2 := below_regrown W dq osq
 have E := Hd (aCS v v0)
 have H2 := Hd ((H.out.below hb2).setS h (v := v % 2) hh (by omega) (by omega))
 have O2 := Hd (((aF.ofBelow (S := (· = p)) (tr HB.out hb2))).trans (aH _ p (10 + h) (.int .u32 (v % 2))))
 go_wp2_with fail
 go_ret
 rw [E.out]
 exact ⟨rfl, H2.out, O2.out⟩
theorem aEO (v t : Int) (h n : Nat) (D S : Nat -> Int) (p m : Nat) (w : World) (hc : dR w p m t n D S) (hn : h < n) (v0 : 0 <= v) (v1 : v < 4294967296) :
 Calls prog 270 #[.pointer (some ⟨p, 0, none⟩), .int .u32 (16384 + 8 * (h : Int)), .int .u32 v] w
  fun e w' => e = .returned (.int .i64 0) /\ dR w' p m t n (upd D h (bQ (hi (D h)) v)) S /\ aF (· = p) w w' := by
 have n8 := hc.n1
 have hh : h < 8 := by omega
 go_enter func270, ntmps270
 go_wp2_with fail
 refine (aAk (16384 + 8 * (h : Int)) t 1 h n D S p m _ hc (by omega) (ne4 (by omega)) (aDb hn)).mono ?_
 rintro e w1 ⟨rfl, hb⟩
 have H := Hd (hc.below (aE hb (.cells #[.int .i64 1, .int .i64 h] 301)))
 have X := aD w1 (.cells #[.int .i64 1, .int .i64 h] 301)
 have HB := Hd (aE hb (.cells #[.int .i64 1, .int .i64 h] 301))
 clear hc hb
 go_upto_region 2 with (fail)
 generalize (w1.alloc (.cells #[.int .i64 1, .int .i64 h] 301)) = W at *
 generalize w1.heap.size = x at *
 have R : pG W x 1 h := X
 have x0 := R.c0
 have x1 := R.c1
 have hx := R.lt
 clear X R
 have hp := H.out.ltp
 have cD := H.out.cD h hh
 obtain ⟨d0, d1⟩ := H.out.d h
 have fS := H.out.free (2 + h)
 have hg := bJ
 have hf := cX
 go_wp2_with fail
 refine aG 16 (by kernel_rfl) (by kernel_rfl) ?_
 simp only [List.take_succ_cons, List.take_zero, List.drop_succ_cons, List.drop_zero]
 repeat (go_big_quiet_step (first | (go_at_call 229; exact Calls.regrown_of ((Hi _ _ d0 d1).mono fun _ _ g => ⟨g.1, g.2 ▸ aI _⟩)) | (go_at_call 72; exact Calls.regrown_of ((aBx _ _ _ (jX d0) (xS d1) v0 v1).mono fun _ _ g => ⟨g.1, g.2 ▸ aI _⟩))))
 refine wpQuiet_nil ?_
 intro _ hw'
 obtain ⟨⟨dq, osq⟩, hw''⟩ := hw'
 subst hw''
 have hb2 := below_regrown W dq osq
 have vb := gO (jX d0) (xS d1) v0 v1
 have H2 := Hd ((H.out.below hb2).setD h (v := bQ (hi (D h)) v) hh vb.1 vb.2)
 have O2 := Hd (((aF.ofBelow (S := (· = p)) (tr HB.out hb2))).trans (aH _ p (2 + h) (.int .u64 (bQ (hi (D h)) v))))
 clear vb
 go_wp2_with fail
 go_ret
 exact ⟨rfl, H2.out, O2.out⟩
theorem aCJ (v t : Int) (h n : Nat) (D S : Nat -> Int) (p m : Nat) (w : World) (hc : dR w p m t n D S) (hn : h < n) (v0 : 0 <= v) (v1 : v < 4294967296) :
 Calls prog 270 #[.pointer (some ⟨p, 0, none⟩), .int .u32 (16384 + 8 * (h : Int) + 4), .int .u32 v] w
  fun e w' => e = .returned (.int .i64 0) /\ dR w' p m t n (upd D h (bQ v (lo (D h)))) S /\ aF (· = p) w w' := by
 have n8 := hc.n1
 have hh : h < 8 := by omega
 go_enter func270, ntmps270
 go_wp2_with fail
 refine (aAk (16384 + 8 * (h : Int) + 4) t 2 h n D S p m _ hc (by omega) (ne4 (by omega)) (aA2 hn)).mono ?_
 rintro e w1 ⟨rfl, hb⟩
 have H := Hd (hc.below (aE hb (.cells #[.int .i64 2, .int .i64 h] 301)))
 have X := aD w1 (.cells #[.int .i64 2, .int .i64 h] 301)
 have HB := Hd (aE hb (.cells #[.int .i64 2, .int .i64 h] 301))
 clear hc hb
 go_upto_region 2 with (fail)
 generalize (w1.alloc (.cells #[.int .i64 2, .int .i64 h] 301)) = W at *
 generalize w1.heap.size = x at *
 have R : pG W x 2 h := X
 have x0 := R.c0
 have x1 := R.c1
 have hx := R.lt
 clear X R
 have hp := H.out.ltp
 have cD := H.out.cD h hh
 obtain ⟨d0, d1⟩ := H.out.d h
 have fS := H.out.free (2 + h)
 have hg := bJ
 have hf := cX
 go_wp2_with fail
 refine aG 16 (by kernel_rfl) (by kernel_rfl) ?_
 simp only [List.take_succ_cons, List.take_zero, List.drop_succ_cons, List.drop_zero]
 repeat (go_big_quiet_step (first | (go_at_call 163; exact Calls.regrown_of ((Lo _ _ d0 d1).mono fun _ _ g => ⟨g.1, g.2 ▸ aI _⟩)) | (go_at_call 72; exact Calls.regrown_of ((aBx _ _ _ v0 v1 (eV _) (pR _)).mono fun _ _ g => ⟨g.1, g.2 ▸ aI _⟩))))
 refine wpQuiet_nil ?_
 intro _ hw'
 obtain ⟨⟨dq, osq⟩, hw''⟩ := hw'
 subst hw''
 have hb2 := below_regrown W dq osq
 have vb := gO v0 v1 (eV (D h)) (pR (D h))
 have H2 := Hd ((H.out.below hb2).setD h (v := bQ v (lo (D h))) hh vb.1 vb.2)
 have O2 := Hd (((aF.ofBelow (S := (· = p)) (tr HB.out hb2))).trans (aH _ p (2 + h) (.int .u64 (bQ v (lo (D h))))))
 clear vb
 go_wp2_with fail
 go_ret
 exact ⟨rfl, H2.out, O2.out⟩
theorem xM (o v t : Int) (n : Nat) (D S : Nat -> Int) (p m : Nat) (w : World) (hc : dR w p m t n D S) (E : Int) (hE : (E != 0) = true) (hE2 : (E == 0) = false)
 (hf : Calls prog 272 #[.pointer (some ⟨p, 0, none⟩), .int .u32 o] w fun e w' => e = .returned (.tuple #[.agg #[.int .i64 0, .int .i64 0], .int .i64 E]) /\ Below w.heap.size w w') :
 Calls prog 270 #[.pointer (some ⟨p, 0, none⟩), .int .u32 o, .int .u32 v] w
  fun e w' => e = .returned (.int .i64 E) /\ dR w' p m t n D S /\ aF (· = p) w w' := by
 have HF := Hd hf
 clear hf
 go_enter func270, ntmps270
 go_wp2_with fail
 refine HF.out.mono ?_
 rintro e w1 ⟨rfl, hb⟩
 have H := Hd (hc.below (aE hb (.cells #[.int .i64 0, .int .i64 0] 301)))
 have O := Hd (aF.ofBelow (S := (· = p)) (aE hb (.cells #[.int .i64 0, .int .i64 0] 301)))
 clear hc hb
 go_wp2_with fail
 go_ret
 exact ⟨rfl, H.out, O.out⟩
theorem tB (o v t : Int) (k n : Nat) (D S : Nat -> Int) (p m : Nat) (w : World) (hc : dR w p m t n D S) (hk : k = 3 \/ k = 4) (o0 : 0 <= o) (o4 : (o % 4 != 0) = false) (hin : (o, eK k (0 : Nat)) ∈ pD n) :
 Calls prog 270 #[.pointer (some ⟨p, 0, none⟩), .int .u32 o, .int .u32 v] w
  fun e w' => e = .returned (.int .i64 12) /\ dR w' p m t n D S /\ aF (· = p) w w' := by
 rcases hk with rfl | rfl
 all_goals
  go_enter func270, ntmps270
  go_wp2_with fail
  refine (aAk o t _ _ n D S p m _ hc o0 o4 hin).mono ?_
  rintro e w1 ⟨rfl, hb⟩
  go_wp2_with fail
  go_ret
  exact ⟨rfl, hc.below (aE hb _), aF.ofBelow (aE hb _)⟩
theorem aLH (o v t : Int) (n : Nat) (D S : Nat -> Int) (p m : Nat) (w : World) (hc : dR w p m t n D S) (o0 : 0 <= o) (o1 : o < 4294967296) (v0 : 0 <= v) (v1 : v < 4294967296) :
 Calls prog 270 #[.pointer (some ⟨p, 0, none⟩), .int .u32 o, .int .u32 v] w
  fun e w' => e = .returned (.int .i64 (eI n o)) /\ dR w' p m t n (eZ n D o v) (fC n S o v) /\ aF (· = p) w w' := by
 have n8 := hc.n1
 rcases aB3 n o with h | h | h | ⟨h, hn, e⟩ | ⟨h, hn, e⟩ | ⟨h, hn, e⟩ | ⟨h4, h1, h2, h⟩
 . have he : eI n o = 11 := by rw [pK (by rw [iZ h]; omega), iZ h]
   rw [he, gV (by rw [he]; omega), gW (by rw [he]; omega)]
   exact xM o v t n D S p m w hc 11 rfl rfl (aAl o p w o0 (by simpa using h))
 . subst h; rw [nW, gV (by rw [nW]; omega), gW (by rw [nW]; omega)]; exact tB _ v t 3 n D S p m w hc (.inl rfl) o0 (by decide) (aGM n)
 . subst h; rw [nT, gV (by rw [nT]; omega), gW (by rw [nT]; omega)]; exact tB _ v t 4 n D S p m w hc (.inr rfl) o0 (by decide) (aGL n)
 . subst e; rw [rN hn n8, yK hn n8, yL hn n8]; exact aCK v t h n D S p m w hc hn v0 v1
 . subst e; rw [uG hn n8, aBA hn n8, aBB hn]; exact aEO v t h n D S p m w hc hn v0 v1
 . subst e; rw [rD hn n8, xT hn n8, xU hn]; exact aCJ v t h n D S p m w hc hn v0 v1
 . have hr := pW (n := n) o0 h4 h1 h2 h
   have he : eI n o = 10 := by rw [pK (by rw [hr]; omega), hr]
   rw [he, gV (by rw [he]; omega), gW (by rw [he]; omega)]
   exact xM o v t n D S p m w hc 10 rfl rfl (xL o t n D S p m w hc o0 o1 (by simpa using h4) (aA3 n o h1 h2 h))
theorem aLD (m n : Nat) (w : World) (hm : dT w ek lR m (pD n)) :
 Calls prog 224 #[.map (some m)] w
  fun e w' => e = .returned (.map (some w.heap.size)) /\ dT w' ek lR w.heap.size (pD n) /\ Below w.heap.size w w' := by
 obtain ⟨es, c, hb, h1, h2, h3⟩ := hm
 have hq := fun w => run_eql_map_nil_sl (P := prog) w 166 _ _ (some m) underlying166
 have HK := Hd (show dT (w.alloc (.map es c)) ek lR w.heap.size (pD n) from ⟨es, c, aD w _, h1, h2, h3⟩)
 clear h1 h2 h3
 go_enter func224, ntmps224
 go_wp2
 rw [run_callFunc_extern func235 (by kernel_rfl) (by kernel_rfl) (by kernel_rfl) (e := Extern.MapsClone.clone) (by kernel_rfl), run_maps_clone_sl w 166 hb]
 simp only [Result.andThen]
 rw [Oper.upon_value]
 go_wp2
 rw [run_typeAssert_map_sl _ 166 20 _ _ _ underlying166]
 simp only [Result.andThen]
 rw [Oper.upon_value]
 go_wp2
 go_ret
 exact ⟨rfl, HK.out, aE (aI w) _⟩
theorem aF6 : (prog.info? 168).map (·.size) = some 19 := by kernel_rfl
def aNi (w : World) (t : Int) (n : Nat) (D S : Nat -> Int) (e : Ending) (w' : World) : Prop :=
 ∃ m', w.heap.size < m' /\ e = .returned (.pointer (some ⟨w.heap.size, 0, none⟩)) /\ dR w' w.heap.size m' t n D S /\ Below w.heap.size w w'
theorem aNw (t : Int) (n : Nat) (D S : Nat -> Int) (p m : Nat) (w : World) (hc : dR w p m t n D S) :
 Calls prog 190 #[.pointer (some ⟨p, 0, none⟩)] w (aNi w t n D S) := by
 have hl := hc.ltp
 have HC := Hd hc
 clear hc
 go_enter func190, ntmps190
 go_upto_region 4 with (first
  | (refine aM rfl 168 (.tmp 7) rfl p 0 rfl _ (nQ t n D S m) HC.out.cell underlying168 rfl (by rw [sO]; exact aF6) (aL _) ?_)
  | (refine aJ rfl 168 (.tmp 3) (.tmp 8) rfl _ 0 rfl (nQ t n D S m) rfl (aD _ _) (by rw [sO]; exact aF6) (by rw [sO]; decide) (aIJ _ _ _ _ _) ?_))
 rw [aX _ _ (by rw [sO]; rfl)]
 have hK := aZ (nQ t n D S m).toArray (aD w (.cells #[.int .u64 0, .int .i64 0, .int .u64 0, .int .u64 0, .int .u64 0, .int .u64 0, .int .u64 0, .int .u64 0, .int .u64 0, .int .u64 0, .int .u32 0, .int .u32 0, .int .u32 0, .int .u32 0, .int .u32 0, .int .u32 0, .int .u32 0, .int .u32 0, .map none] 168))
 have hB := aB (aE (aI w) (.cells #[.int .u64 0, .int .i64 0, .int .u64 0, .int .u64 0, .int .u64 0, .int .u64 0, .int .u64 0, .int .u64 0, .int .u64 0, .int .u64 0, .int .u32 0, .int .u32 0, .int .u32 0, .int .u32 0, .int .u32 0, .int .u32 0, .int .u32 0, .int .u32 0, .map none] 168)) (nQ t n D S m).toArray (Nat.le_refl w.heap.size)
 generalize (w.alloc (.cells #[.int .u64 0, .int .i64 0, .int .u64 0, .int .u64 0, .int .u64 0, .int .u64 0, .int .u64 0, .int .u64 0, .int .u64 0, .int .u64 0, .int .u32 0, .int .u32 0, .int .u32 0, .int .u32 0, .int .u32 0, .int .u32 0, .int .u32 0, .int .u32 0, .map none] 168)).setRow w.heap.size (nQ t n D S m).toArray = W at *
 have c := (HC.out.below hB).cM
 have f := aN hK 18
 have hM := (HC.out.below hB).map
 have K := Hd hK
 have hs : w.heap.size < W.heap.size := lt_of_block hK
 have HB := Hd hB
 clear hK hB
 go_wp2_with fail
 refine (aLD m n W hM).mono ?_
 rintro e w2 ⟨rfl, hM2, hb2⟩
 have K2 := aC hb2 K.out hs
 have c2 := aA K2 18
 have f2 := aN K2 18
 rw [List.getElem?_toArray, aJ8] at c2
 have HK2 := Hd K2
 clear K2
 go_wp2_with fail
 go_ret
 have hm2 := hM2.lt
 refine ⟨W.heap.size, hs, rfl, ⟨?_, hM2.kept (Below.heap_setCell _ _ _ _ (by show W.heap.size ≠ w.heap.size; omega)), HC.out.t0, HC.out.t1, HC.out.n0, HC.out.n1, HC.out.d, HC.out.s⟩, (tr HB.out hb2).setCell (p := ⟨w.heap.size, 18, none⟩) (Nat.le_refl _) _⟩
 rw [aR HK2.out]
 simp only [List.setIfInBounds_toArray]
 rw [aFd]
end Go.Proofs.YtealhichdbimlaaGreat.B
