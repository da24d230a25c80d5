/- A part of the proof of a law of layer 12: an. -/
import Derived.Test.YtaohacadochldaaGreatZCam
import Derived.Shelf.SlMaps.Clone
set_option linter.unusedVariables false
set_option linter.unusedSimpArgs false
set_option maxHeartbeats 12800000
set_option maxRecDepth 100000
namespace Go.Proofs.YtaohacadochldaaGreat.B
open Go.Proofs.Tryz
open Go.ChangeShapes Go.WideShapes Go.RowKit Go.Sort Go.MapKept
theorem aJY (p bm : Nat) (rv : Value) (R : List (Int × Int)) (ks : List Int) (pv : Int -> Value) (Lp : Int -> List Su) (a b s v E : Int) (xt : TypeId) (xv : Value) (vb : Nat) (D : Nat -> Prop) (T : World -> Prop) (w : World)
 (a0 : 0 <= a) (a1 : a < 4294967296) (h : (a % 4 != 0) = false) (hB : eZ w p bm rv R ks pv Lp) (hvE : E ≠ 0 -> v = 0) (hfd : fF a (Lp (a / 16777216)) = (.agg #[.int .u32 b, .int .u32 s, .iface xt xv], 0)) (hb0 : 0 <= b) (hba : b <= a) (hDp : ¬ D p) (hDl : ∀ k, D k -> k < w.heap.size)
 (hdev : ∀ w', aF (· = p) w w' -> Calls prog 107 #[.iface xt xv, .int .u32 (a - b), .pointer (some ⟨vb, 0, none⟩)] w' fun e w'' => e = .returned (.tuple #[.int .u32 v, .int .i64 E]) /\ aF D w' w'' /\ T w'')
 (hT : ∀ u u', T u -> aF (fun k => k = p \/ w.heap.size <= k) u u' -> T u') :
 Calls prog 106 #[.pointer (some ⟨p, 0, none⟩),   .int .u32 a, .func (.func 107) #[] #[.pointer (some ⟨vb, 0, none⟩)]] w fun e w' => e = .returned (.tuple #[.int .u32 v, .int .i64 E]) /\ aF D w w' /\ T w' := by
 exact xO
theorem aM9 (off v E : Int) (xt : TypeId) (xv : Value) (G vb : Nat) (D : Nat -> Prop) (T : World -> Prop) (w : World)
 (hm : ∀ (n : Nat) (w : World), (method (n + 1) xt xv "Store").run prog w = .ok (G, xv) w) (heg : ∀ args w, (callFunc G args).run prog w = .ok (.enter G args) w)
 (hv : w.cell? ⟨vb, 0, none⟩ = some (.int .u32 v)) (hdev : Calls prog G #[xv, .int .u32 off, .int .u32 v] w fun e w' => e = .returned (.int .i64 E) /\ aF D w w' /\ T w') :
 Calls prog 107 #[.iface xt xv, .int .u32 off, .pointer (some ⟨vb, 0, none⟩)] w
  fun e w' => e = .returned (.tuple #[.int .u32 0, .int .i64 E]) /\ aF D w w' /\ T w' := by
 go_enter func107, ntmps107
 go_wp2_with fail
 refine hdev.mono ?_
 rintro e w1 ⟨rfl, h1, h2⟩
 go_wp2_with fail
 go_ret2
 exact ⟨rfl, h1, h2⟩
section
variable (p bm : Nat) (rv : Value) (R : List (Int × Int)) (ks : List Int) (pv : Int -> Value) (Lp : Int -> List Su) (a b s v E : Int) (xt : TypeId) (xv : Value) (F : Nat)
theorem yW (D : Nat -> Prop) (T : World -> Prop) (w : World)
 (a0 : 0 <= a) (a1 : a < 4294967296) (h : (a % 4 != 0) = false) (hB : eZ w p bm rv R ks pv Lp) (hvE : E ≠ 0 -> v = 0)
 (hm : ∀ (n : Nat) (w : World), (method (n + 1) xt xv "Load").run prog w = .ok (F, xv) w) (heg : ∀ args w, (callFunc F args).run prog w = .ok (.enter F args) w)
 (hfd : fF a (Lp (a / 16777216)) = (.agg #[.int .u32 b, .int .u32 s, .iface xt xv], 0)) (hb0 : 0 <= b) (hba : b <= a) (hDp : ¬ D p) (hDl : ∀ k, D k -> k < w.heap.size)
 (hdev : ∀ w', aF (· = p) w w' -> Calls prog F #[xv, .int .u32 (a - b)] w' fun e w'' => e = .returned (.tuple #[.int .u32 v, .int .i64 E]) /\ aF D w' w'' /\ T w'')
 (hT : ∀ u u', T u -> aF (fun k => k = p \/ w.heap.size <= k) u u' -> T u') :
 Calls prog 134 #[.pointer (some ⟨p, 0, none⟩), .int .u32 a] w fun e w' => e = .returned (.tuple #[.int .u32 v, .int .i64 E]) /\ aF D w w' /\ T w' := by
 have hmf := mkf
 have HR := Hd (aNC p bm rv R ks pv Lp a b s v E xt xv F D T w a0 a1 h hB hvE hm heg hfd hb0 hba hDp hDl hdev hT)
 clear hB hvE hm heg hfd hDp hDl hdev hT
 go_enter func134, ntmps134
 go_wp2_with fail
 refine HR.out.mono ?_
 rintro e w1 ⟨rfl, ho, hT⟩
 go_wp2_with fail
 go_ret2
 exact ⟨rfl, ho, hT⟩
theorem sF (D : Nat -> Prop) (T : World -> Prop) (w : World)
 (a0 : 0 <= a) (a1 : a < 4294967296) (h : (a % 4 != 0) = false) (hB : eZ w p bm rv R ks pv Lp)
 (hm : ∀ (n : Nat) (w : World), (method (n + 1) xt xv "Store").run prog w = .ok (F, xv) w) (heg : ∀ args w, (callFunc F args).run prog w = .ok (.enter F args) w)
 (hfd : fF a (Lp (a / 16777216)) = (.agg #[.int .u32 b, .int .u32 s, .iface xt xv], 0)) (hb0 : 0 <= b) (hba : b <= a) (hDp : ¬ D p) (hDl : ∀ k, D k -> k < w.heap.size)
 (hdev : ∀ w', aF (fun k => k = p \/ w.heap.size <= k) w w' -> Calls prog F #[xv, .int .u32 (a - b), .int .u32 v] w' fun e w'' => e = .returned (.int .i64 E) /\ aF D w' w'' /\ T w'')
 (hT : ∀ u u', T u -> aF (fun k => k = p \/ w.heap.size <= k) u u' -> T u') :
 Calls prog 59 #[.pointer (some ⟨p, 0, none⟩), .int .u32 a, .int .u32 v] w fun e w' => e = .returned (.int .i64 E) /\ aF D w w' /\ T w' := by
 have hmf := mkf
 have hpl := hB.ltp
 have HR := Hd (aJY p bm rv R ks pv Lp a b s 0 E xt xv w.heap.size D T (w.alloc (.cells #[.int .u32 v] 26)) a0 a1 h (hB.ofBelow (aE (aH w) _)) (fun _ => rfl) hfd hb0 hba hDp (fun k hk => by have := hDl k hk; simp; omega)
  (fun w' ho => aM9 (a - b) v E xt xv F w.heap.size D T w' hm heg (by rw [ho.cell (by simp) (by show ¬ w.heap.size = p; omega)]; exact aA (aD w (.cells #[.int .u32 v] 26)) 0)
    (hdev w' ((aF.ofAlloc w _).trans (ho.mono fun _ _ h => .inl h))))
  (fun u u' hu ho => hT u u' hu (ho.mono fun k _ h => h.imp id fun h => by simp at h; omega)))
 clear hB hm heg hfd hDp hDl hdev hT
 go_enter func59, ntmps59
 go_wp2_with fail
 refine HR.out.mono ?_
 rintro e w1 ⟨rfl, ho, hT⟩
 go_wp2_with fail
 go_ret
 exact ⟨rfl, (aF.ofAlloc w _).trans ho, hT⟩
end
theorem aAh (w : World) : (zeroValue 291).run prog w = .ok (.agg #[.int .i64 0, .int .i64 0]) w := by kernel_rfl
theorem qV {P : Prop} (h : P := by
 simp [results, results271, go_sem]
 ) : P := h
theorem aAw (o : Int) (p : Nat) (w : World) (o0 : 0 <= o) (h : (o % 4 != 0) = true) :
 Calls prog 271 #[.pointer (some ⟨p, 0, none⟩), .int .u32 o] w fun e w' => e = .returned (.tuple #[.agg #[.int .i64 0, .int .i64 0], .int .i64 11]) /\ Below w.heap.size w w' := by
 go_enter func271, ntmps271
 go_wp2_with fail
 refine bodyPost_ret (v := .tuple #[.agg #[.int .i64 0, .int .i64 0], .int .i64 11]) ?_ rfl ?_
 . exact qV
 . exact ⟨rfl, aE (aH w) _⟩
theorem xV (o t : Int) (n : Nat) (D S : Nat -> Int) (p m : Nat) (w : World) (hc : dY w p m t n D S) (o0 : 0 <= o) (o1 : o < 4294967296) (h : (o % 4 != 0) = false) (hno : ∀ q ∈ pM n, q.1 ≠ o) :
 Calls prog 271 #[.pointer (some ⟨p, 0, none⟩), .int .u32 o] w fun e w' => e = .returned (.tuple #[.agg #[.int .i64 0, .int .i64 0], .int .i64 10]) /\ Below w.heap.size w w' := by
 have c := hc.cM
 have hM := hc.map.kept (aX w (.cells #[.int .i64 0, .int .i64 0] 291) hc.ltm)
 have hl := hc.ltp
 clear hc
 go_enter func271, ntmps271
 go_wp2_with (at_lookup; refine vN fY rfl _ _ _ rfl underlying164 rfl hM o _ rfl hno ⟨o0, o1⟩ (aAh _) ?_)
 refine bodyPost_ret (v := .tuple #[.agg #[.int .i64 0, .int .i64 0], .int .i64 10]) ?_ rfl ?_
 . exact qV
 . exact ⟨rfl, aE (aE (aH w) _) _⟩
theorem aAv (o t k h : Int) (n : Nat) (D S : Nat -> Int) (p m : Nat) (w : World) (hc : dY w p m t n D S) (o0 : 0 <= o) (o4 : (o % 4 != 0) = false) (hin : (o, eR k h) ∈ pM n) :
 Calls prog 271 #[.pointer (some ⟨p, 0, none⟩), .int .u32 o] w fun e w' => e = .returned (.tuple #[.agg #[.int .i64 k, .int .i64 h], .int .i64 0]) /\ Below w.heap.size w w' := by
 have c := hc.cM
 have hM := hc.map.kept (aX w (.cells #[.int .i64 0, .int .i64 0] 291) hc.ltm)
 have hl := hc.ltp
 clear hc
 unfold eR at hin
 go_enter func271, ntmps271
 go_wp2_with (at_lookup; refine vU fY rfl _ _ _ rfl underlying164 rfl hM o _ rfl hin ?_)
 refine bodyPost_ret (v := .tuple #[.agg #[.int .i64 k, .int .i64 h], .int .i64 0]) ?_ rfl ?_
 . exact qV
 . exact ⟨rfl, aE (aE (aH w) _) _⟩
def uE (t : Int) (D S : Nat -> Int) (k h : Nat) : Int := match k with
 | 0 => S h
 | 1 => lo (D h)
 | 2 => hi (D h)
 | 3 => lo t
 | _ => hi t
theorem wA {P : Prop} (h : P := by
 refine wpQuiet_nil ?_
 intro _ hw'
 obtain ⟨⟨dq, osq⟩, hw''⟩ := hw'
 subst hw''
 go_wp2_with fail
 go_ret
 exact ⟨rfl, trG (aE (aH w) _) _ _⟩
 ) : P := h
theorem aLJ (t : Int) (k h n : Nat) (D S : Nat -> Int) (p m : Nat) (w : World) (hc : dY w p m t n D S) (hk : k < 5) (hh : h < 8) :
 Calls prog 272 #[.pointer (some ⟨p, 0, none⟩), .agg #[.int .i64 k, .int .i64 h]] w fun e w' => e = .returned (.int .u32 (uE t D S k h)) /\ Below w.heap.size w w' := by
 have hg := bC
 have hl1 : w.heap.size < w.heap.size + 1 := by omega
 have hl2 : p < w.heap.size + 1 := by have := hc.ltp; omega
 have c0 := hc.c0
 have cD := hc.cD h hh
 have cS := hc.cS h hh
 have hl := hc.ltp
 have t0 := hc.t0
 have t1 := hc.t1
 obtain ⟨d0, d1⟩ := hc.d h
 clear hc
 obtain rfl | rfl | rfl | rfl | rfl : k = 0 \/ k = 1 \/ k = 2 \/ k = 3 \/ k = 4 := by omega
 . rw [show uE t D S 0 h = S h from rfl]
   go_enter func272, ntmps272
   go_wp2_with fail
   go_quiet (fail)
   go_wp2_with fail
   go_ret
   exact ⟨rfl, vG (aE (aH w) _) _⟩
 . rw [show uE t D S 1 h = lo (D h) from rfl]
   go_enter func272, ntmps272
   go_wp2_with fail
   refine wp_region_quiet_below (by kernel_rfl) (by kernel_rfl) ?_
   repeat (go_big_quiet_step (first | (go_at_call 55; exact Calls.regrown_of ((Lo _ _ d0 d1).mono fun _ _ h => ⟨h.1, h.2 ▸ aH _⟩))))
   exact wA
 . rw [show uE t D S 2 h = hi (D h) from rfl]
   go_enter func272, ntmps272
   go_wp2_with fail
   refine wp_region_quiet_below (by kernel_rfl) (by kernel_rfl) ?_
   repeat (go_big_quiet_step (first | (go_at_call 56; exact Calls.regrown_of ((Hi _ _ d0 d1).mono fun _ _ h => ⟨h.1, h.2 ▸ aH _⟩))))
   exact wA
 . rw [show uE t D S 3 h = lo t from rfl]
   go_enter func272, ntmps272
   go_wp2_with (go_at_call 55; refine (Lo _ _ t0 t1).mono ?_; rintro e w' ⟨rfl, rfl⟩)
   go_ret
   exact ⟨rfl, aE (aH w) _⟩
 . rw [show uE t D S 4 h = hi t from rfl]
   go_enter func272, ntmps272
   go_wp2_with (go_at_call 56; refine (Hi _ _ t0 t1).mono ?_; rintro e w' ⟨rfl, rfl⟩)
   go_ret
   exact ⟨rfl, aE (aH w) _⟩
theorem pP (o t : Int) (k h n : Nat) (D S : Nat -> Int) (p m : Nat) (w : World) (hc : dY w p m t n D S) (hk : k < 5) (hh : h < 8) (o0 : 0 <= o) (o4 : (o % 4 != 0) = false) (hin : (o, eR k h) ∈ pM n) :
 Calls prog 268 #[.pointer (some ⟨p, 0, none⟩), .int .u32 o] w fun e w' => e = .returned (.tuple #[.int .u32 (uE t D S k h), .int .i64 0]) /\ Below w.heap.size w w' := by
 go_enter func268, ntmps268
 go_wp2_with fail
 refine (aAv o t k h n D S p m _ hc o0 o4 hin).mono ?_
 rintro e w1 ⟨rfl, hb⟩
 have H := Hd (hc.below (aE hb (.cells #[.int .i64 k, .int .i64 h] 291)))
 go_wp2_with fail
 refine (aLJ t k h n D S p m _ H.out hk hh).mono ?_
 rintro e w2 ⟨rfl, hb2⟩
 go_wp2_with fail
 go_ret2
 exact ⟨rfl, tr (aE hb _) hb2⟩
theorem aBF {n h : Nat} (hn : h < n) : (4 * (h : Int), eR (0 : Nat) h) ∈ pM n := (oC n _).2 (.inr (.inr ⟨h, hn, .inr (.inr rfl)⟩))
theorem aDb {n h : Nat} (hn : h < n) : (16384 + 8 * (h : Int), eR (1 : Nat) h) ∈ pM n := (oC n _).2 (.inr (.inr ⟨h, hn, .inr (.inl rfl)⟩))
theorem aBD {n h : Nat} (hn : h < n) : (16384 + 8 * (h : Int) + 4, eR (2 : Nat) h) ∈ pM n := (oC n _).2 (.inr (.inr ⟨h, hn, .inl rfl⟩))
theorem aGN (n : Nat) : (49144, eR (3 : Nat) (0 : Nat)) ∈ pM n := (oC n _).2 (.inr (.inl rfl))
theorem aGM (n : Nat) : (49148, eR (4 : Nat) (0 : Nat)) ∈ pM n := (oC n _).2 (.inl rfl)
theorem aNq (o t : Int) (n : Nat) (D S : Nat -> Int) (p m : Nat) (w : World) (hc : dY w p m t n D S) (o0 : 0 <= o) (o1 : o < 4294967296) :
 Calls prog 268 #[.pointer (some ⟨p, 0, none⟩), .int .u32 o] w fun e w' => e = .returned (.tuple #[.int .u32 (mS t n D S o), .int .i64 (gF n o)]) /\ Below w.heap.size w w' := by
 have n8 := hc.n1
 rcases aB9 n o with h | h | h | ⟨h, hn, e⟩ | ⟨h, hn, e⟩ | ⟨h, hn, e⟩ | ⟨h4, h1, h2, h⟩
 . rw [jD h, pS (by rw [jD h]; omega)]
   have h' : (o % 4 != 0) = true := by simpa using h
   go_enter func268, ntmps268
   go_wp2_with fail
   refine (aAw _ _ _ o0 h').mono ?_
   rintro e w1 ⟨rfl, hb⟩
   go_wp2_with fail
   go_ret2
   exact ⟨rfl, aE hb _⟩
 . subst h; rw [aGa, uK]; exact pP _ t 3 0 n D S p m w hc (by omega) (by omega) o0 (by decide) (aGN n)
 . subst h; rw [aF6, uA]; exact pP _ t 4 0 n D S p m w hc (by omega) (by omega) o0 (by decide) (aGM n)
 . subst e; rw [aBg hn n8, nC hn]; exact pP _ t 0 h n D S p m w hc (by omega) (by omega) o0 (ne4 (by omega)) (aBF hn)
 . subst e; rw [aDi hn n8, pZ hn]; exact pP _ t 1 h n D S p m w hc (by omega) (by omega) o0 (ne4 (by omega)) (aDb hn)
 . subst e; rw [aA8 hn n8, mV hn]; exact pP _ t 2 h n D S p m w hc (by omega) (by omega) o0 (ne4 (by omega)) (aBD hn)
 . have he := qE o0 h4 h1 h2 h
   rw [he, pS (by rw [he]; omega)]
   have h' : (o % 4 != 0) = false := by simpa using h4
   have hno := aBE n o h1 h2 h
   have HN := Hd hno
   clear h4 hno h he
   go_enter func268, ntmps268
   go_wp2_with fail
   refine (xV _ _ _ _ _ _ _ _ hc o0 o1 h' HN.out).mono ?_
   rintro e w1 ⟨rfl, hb⟩
   go_wp2_with fail
   go_ret2
   exact ⟨rfl, aE hb _⟩
theorem aCW (v : Int) (v0 : 0 <= v) : field v 0 1 = v % 2 := by
 unfold field inw
 simp
 omega
def pO (W : World) (x : Nat) (k h : Int) : Prop := W.heap[x]? = some (.cells #[.int .i64 k, .int .i64 h] 291 (0, 0))
theorem pO.c0 {W : World} {x : Nat} {k h : Int} (a : pO W x k h) : W.cell? ⟨x, 0, none⟩ = some (.int .i64 k) := by have := aA a 0; simpa using this
theorem pO.c1 {W : World} {x : Nat} {k h : Int} (a : pO W x k h) : W.cell? ⟨x, 1, none⟩ = some (.int .i64 h) := by have := aA a 1; simpa using this
theorem pO.lt {W : World} {x : Nat} {k h : Int} (a : pO W x k h) : x < W.heap.size := lt_of_block a
theorem aCQ (v t : Int) (h n : Nat) (D S : Nat -> Int) (p m : Nat) (w : World) (hc : dY w p m t n D S) (hn : h < n) (v0 : 0 <= v) (v1 : v < 4294967296) :
 Calls prog 269 #[.pointer (some ⟨p, 0, none⟩), .int .u32 (4 * (h : Int)), .int .u32 v] w
  fun e w' => e = .returned (.int .i64 0) /\ dY w' p m t n D (upd S h (v % 2)) /\ aF (· = p) w w' := by
 have n8 := hc.n1
 have hh : h < 8 := by omega
 go_enter func269, ntmps269
 go_wp2_with fail
 refine (aAv (4 * (h : Int)) t 0 h n D S p m _ hc (by omega) (ne4 (by omega)) (aBF hn)).mono ?_
 rintro e w1 ⟨rfl, hb⟩
 have H := Hd (hc.below (aE hb (.cells #[.int .i64 0, .int .i64 h] 291)))
 have X := aD w1 (.cells #[.int .i64 0, .int .i64 h] 291)
 have HB := Hd (aE hb (.cells #[.int .i64 0, .int .i64 h] 291))
 clear hc hb
 go_upto_region 2 with (fail)
 generalize (w1.alloc (.cells #[.int .i64 0, .int .i64 h] 291)) = W at *
 generalize w1.heap.size = x at *
 have R : pO W x 0 h := X
 have x0 := R.c0
 have x1 := R.c1
 have hx := R.lt
 clear X R
 have hp := H.out.ltp
 have cS := H.out.cS h hh
 have fS := H.out.free (10 + h)
 have hg := bC
 have hf := dE
 go_wp2_with fail
 refine aM 8 (by kernel_rfl) (by kernel_rfl) ?_
 simp only [List.take_succ_cons, List.take_zero, List.drop_succ_cons, List.drop_zero]
 repeat (go_big_quiet_step (first | (go_at_call 246; exact Calls.regrown_of ((Field v 0 1 _ v0 v1 (by omega) (by omega)).mono fun _ _ g => ⟨g.1, by obtain ⟨_, j, rfl⟩ := g; exact vG (aH _) _⟩))))
 refine wpQuiet_nil ?_
 intro _ hw'
 obtain ⟨⟨dq, osq⟩, hw''⟩ := hw'
 subst hw''
 have hb2 := below_regrown W dq osq
 have E := Hd (aCW v v0)
 have H2 := Hd ((H.out.below hb2).setS h (v := v % 2) hh (by omega) (by omega))
 have O2 := Hd (((aF.ofBelow (S := (· = p)) (tr HB.out hb2))).trans (aG _ p (10 + h) (.int .u32 (v % 2))))
 go_wp2_with fail
 go_ret
 rw [E.out]
 exact ⟨rfl, H2.out, O2.out⟩
theorem aEN (v t : Int) (h n : Nat) (D S : Nat -> Int) (p m : Nat) (w : World) (hc : dY w p m t n D S) (hn : h < n) (v0 : 0 <= v) (v1 : v < 4294967296) :
 Calls prog 269 #[.pointer (some ⟨p, 0, none⟩), .int .u32 (16384 + 8 * (h : Int)), .int .u32 v] w
  fun e w' => e = .returned (.int .i64 0) /\ dY w' p m t n (upd D h (cZ (hi (D h)) v)) S /\ aF (· = p) w w' := by
 have n8 := hc.n1
 have hh : h < 8 := by omega
 go_enter func269, ntmps269
 go_wp2_with fail
 refine (aAv (16384 + 8 * (h : Int)) t 1 h n D S p m _ hc (by omega) (ne4 (by omega)) (aDb hn)).mono ?_
 rintro e w1 ⟨rfl, hb⟩
 have H := Hd (hc.below (aE hb (.cells #[.int .i64 1, .int .i64 h] 291)))
 have X := aD w1 (.cells #[.int .i64 1, .int .i64 h] 291)
 have HB := Hd (aE hb (.cells #[.int .i64 1, .int .i64 h] 291))
 clear hc hb
 go_upto_region 2 with (fail)
 generalize (w1.alloc (.cells #[.int .i64 1, .int .i64 h] 291)) = W at *
 generalize w1.heap.size = x at *
 have R : pO W x 1 h := X
 have x0 := R.c0
 have x1 := R.c1
 have hx := R.lt
 clear X R
 have hp := H.out.ltp
 have cD := H.out.cD h hh
 obtain ⟨d0, d1⟩ := H.out.d h
 have fS := H.out.free (2 + h)
 have hg := bC
 have hf := dE
 go_wp2_with fail
 refine aM 16 (by kernel_rfl) (by kernel_rfl) ?_
 simp only [List.take_succ_cons, List.take_zero, List.drop_succ_cons, List.drop_zero]
 repeat (go_big_quiet_step (first | (go_at_call 56; exact Calls.regrown_of ((Hi _ _ d0 d1).mono fun _ _ g => ⟨g.1, g.2 ▸ aH _⟩)) | (go_at_call 273; exact Calls.regrown_of ((aFA _ _ _ (kA d0) (yC d1) v0 v1).mono fun _ _ g => ⟨g.1, g.2 ▸ aH _⟩))))
 refine wpQuiet_nil ?_
 intro _ hw'
 obtain ⟨⟨dq, osq⟩, hw''⟩ := hw'
 subst hw''
 have hb2 := below_regrown W dq osq
 have vb := gV (kA d0) (yC d1) v0 v1
 have H2 := Hd ((H.out.below hb2).setD h (v := cZ (hi (D h)) v) hh vb.1 vb.2)
 have O2 := Hd (((aF.ofBelow (S := (· = p)) (tr HB.out hb2))).trans (aG _ p (2 + h) (.int .u64 (cZ (hi (D h)) v))))
 clear vb
 go_wp2_with fail
 go_ret
 exact ⟨rfl, H2.out, O2.out⟩
theorem aCP (v t : Int) (h n : Nat) (D S : Nat -> Int) (p m : Nat) (w : World) (hc : dY w p m t n D S) (hn : h < n) (v0 : 0 <= v) (v1 : v < 4294967296) :
 Calls prog 269 #[.pointer (some ⟨p, 0, none⟩), .int .u32 (16384 + 8 * (h : Int) + 4), .int .u32 v] w
  fun e w' => e = .returned (.int .i64 0) /\ dY w' p m t n (upd D h (cZ v (lo (D h)))) S /\ aF (· = p) w w' := by
 have n8 := hc.n1
 have hh : h < 8 := by omega
 go_enter func269, ntmps269
 go_wp2_with fail
 refine (aAv (16384 + 8 * (h : Int) + 4) t 2 h n D S p m _ hc (by omega) (ne4 (by omega)) (aBD hn)).mono ?_
 rintro e w1 ⟨rfl, hb⟩
 have H := Hd (hc.below (aE hb (.cells #[.int .i64 2, .int .i64 h] 291)))
 have X := aD w1 (.cells #[.int .i64 2, .int .i64 h] 291)
 have HB := Hd (aE hb (.cells #[.int .i64 2, .int .i64 h] 291))
 clear hc hb
 go_upto_region 2 with (fail)
 generalize (w1.alloc (.cells #[.int .i64 2, .int .i64 h] 291)) = W at *
 generalize w1.heap.size = x at *
 have R : pO W x 2 h := X
 have x0 := R.c0
 have x1 := R.c1
 have hx := R.lt
 clear X R
 have hp := H.out.ltp
 have cD := H.out.cD h hh
 obtain ⟨d0, d1⟩ := H.out.d h
 have fS := H.out.free (2 + h)
 have hg := bC
 have hf := dE
 go_wp2_with fail
 refine aM 16 (by kernel_rfl) (by kernel_rfl) ?_
 simp only [List.take_succ_cons, List.take_zero, List.drop_succ_cons, List.drop_zero]
 repeat (go_big_quiet_step (first | (go_at_call 55; exact Calls.regrown_of ((Lo _ _ d0 d1).mono fun _ _ g => ⟨g.1, g.2 ▸ aH _⟩)) | (go_at_call 273; exact Calls.regrown_of ((aFA _ _ _ v0 v1 (dQ _) (mF _)).mono fun _ _ g => ⟨g.1, g.2 ▸ aH _⟩))))
 refine wpQuiet_nil ?_
 intro _ hw'
 obtain ⟨⟨dq, osq⟩, hw''⟩ := hw'
 subst hw''
 have hb2 := below_regrown W dq osq
 have vb := gV v0 v1 (dQ (D h)) (mF (D h))
 have H2 := Hd ((H.out.below hb2).setD h (v := cZ v (lo (D h))) hh vb.1 vb.2)
 have O2 := Hd (((aF.ofBelow (S := (· = p)) (tr HB.out hb2))).trans (aG _ p (2 + h) (.int .u64 (cZ v (lo (D h))))))
 clear vb
 go_wp2_with fail
 go_ret
 exact ⟨rfl, H2.out, O2.out⟩
theorem xW (o v t : Int) (n : Nat) (D S : Nat -> Int) (p m : Nat) (w : World) (hc : dY w p m t n D S) (E : Int) (hE : (E != 0) = true) (hE2 : (E == 0) = false)
 (hf : Calls prog 271 #[.pointer (some ⟨p, 0, none⟩), .int .u32 o] w fun e w' => e = .returned (.tuple #[.agg #[.int .i64 0, .int .i64 0], .int .i64 E]) /\ Below w.heap.size w w') :
 Calls prog 269 #[.pointer (some ⟨p, 0, none⟩), .int .u32 o, .int .u32 v] w
  fun e w' => e = .returned (.int .i64 E) /\ dY w' p m t n D S /\ aF (· = p) w w' := by
 have HF := Hd hf
 clear hf
 go_enter func269, ntmps269
 go_wp2_with fail
 refine HF.out.mono ?_
 rintro e w1 ⟨rfl, hb⟩
 have H := Hd (hc.below (aE hb (.cells #[.int .i64 0, .int .i64 0] 291)))
 have O := Hd (aF.ofBelow (S := (· = p)) (aE hb (.cells #[.int .i64 0, .int .i64 0] 291)))
 clear hc hb
 go_wp2_with fail
 go_ret
 exact ⟨rfl, H.out, O.out⟩
theorem tN (o v t : Int) (k n : Nat) (D S : Nat -> Int) (p m : Nat) (w : World) (hc : dY w p m t n D S) (hk : k = 3 \/ k = 4) (o0 : 0 <= o) (o4 : (o % 4 != 0) = false) (hin : (o, eR k (0 : Nat)) ∈ pM n) :
 Calls prog 269 #[.pointer (some ⟨p, 0, none⟩), .int .u32 o, .int .u32 v] w
  fun e w' => e = .returned (.int .i64 12) /\ dY w' p m t n D S /\ aF (· = p) w w' := by
 rcases hk with rfl | rfl
 all_goals
  go_enter func269, ntmps269
  go_wp2_with fail
  refine (aAv o t _ _ n D S p m _ hc o0 o4 hin).mono ?_
  rintro e w1 ⟨rfl, hb⟩
  go_wp2_with fail
  go_ret
  exact ⟨rfl, hc.below (aE hb _), aF.ofBelow (aE hb _)⟩
theorem aLI (o v t : Int) (n : Nat) (D S : Nat -> Int) (p m : Nat) (w : World) (hc : dY w p m t n D S) (o0 : 0 <= o) (o1 : o < 4294967296) (v0 : 0 <= v) (v1 : v < 4294967296) :
 Calls prog 269 #[.pointer (some ⟨p, 0, none⟩), .int .u32 o, .int .u32 v] w
  fun e w' => e = .returned (.int .i64 (eP n o)) /\ dY w' p m t n (eT n D o v) (eU n S o v) /\ aF (· = p) w w' := by
 have n8 := hc.n1
 rcases aB9 n o with h | h | h | ⟨h, hn, e⟩ | ⟨h, hn, e⟩ | ⟨h, hn, e⟩ | ⟨h4, h1, h2, h⟩
 . have he : eP n o = 11 := by rw [pR (by rw [jD h]; omega), jD h]
   rw [he, iF (by rw [he]; omega), iG (by rw [he]; omega)]
   exact xW o v t n D S p m w hc 11 rfl rfl (aAw o p w o0 (by simpa using h))
 . subst h; rw [oD, iF (by rw [oD]; omega), iG (by rw [oD]; omega)]; exact tN _ v t 3 n D S p m w hc (.inl rfl) o0 (by decide) (aGN n)
 . subst h; rw [nZ, iF (by rw [nZ]; omega), iG (by rw [nZ]; omega)]; exact tN _ v t 4 n D S p m w hc (.inr rfl) o0 (by decide) (aGM n)
 . subst e; rw [sA hn n8, yR hn n8, yS hn n8]; exact aCQ v t h n D S p m w hc hn v0 v1
 . subst e; rw [qA hn n8, uM hn n8, uN hn]; exact aEN v t h n D S p m w hc hn v0 v1
 . subst e; rw [oA hn n8, rP hn n8, rQ hn]; exact aCP v t h n D S p m w hc hn v0 v1
 . have hr := qE (n := n) o0 h4 h1 h2 h
   have he : eP n o = 10 := by rw [pR (by rw [hr]; omega), hr]
   rw [he, iF (by rw [he]; omega), iG (by rw [he]; omega)]
   exact xW o v t n D S p m w hc 10 rfl rfl (xV o t n D S p m w hc o0 o1 (by simpa using h4) (aBE n o h1 h2 h))
theorem aLE (m n : Nat) (w : World) (hm : eA w ek lT m (pM n)) :
 Calls prog 199 #[.map (some m)] w
  fun e w' => e = .returned (.map (some w.heap.size)) /\ eA w' ek lT w.heap.size (pM n) /\ Below w.heap.size w w' := by
 obtain ⟨es, c, hb, h1, h2, h3⟩ := hm
 have hq := fun w => run_eql_map_nil_sl (P := prog) w 164 _ _ (some m) underlying164
 have HK := Hd (show eA (w.alloc (.map es c)) ek lT w.heap.size (pM n) from ⟨es, c, aD w _, h1, h2, h3⟩)
 clear h1 h2 h3
 go_enter func199, ntmps199
 go_wp2
 rw [run_callFunc_extern func226 (by kernel_rfl) (by kernel_rfl) (by kernel_rfl) (e := Extern.MapsClone.clone) (by kernel_rfl), run_maps_clone_sl w 164 hb]
 simp only [Result.andThen]
 rw [Oper.upon_value]
 go_wp2
 rw [run_typeAssert_map_sl _ 164 20 _ _ _ underlying164]
 simp only [Result.andThen]
 rw [Oper.upon_value]
 go_wp2
 go_ret
 exact ⟨rfl, HK.out, aE (aH w) _⟩
theorem aF7 : (prog.info? 166).map (·.size) = some 19 := by kernel_rfl
def aNa (w : World) (t : Int) (n : Nat) (D S : Nat -> Int) (e : Ending) (w' : World) : Prop :=
 ∃ m', w.heap.size < m' /\ e = .returned (.pointer (some ⟨w.heap.size, 0, none⟩)) /\ dY w' w.heap.size m' t n D S /\ Below w.heap.size w w'
theorem aNp (t : Int) (n : Nat) (D S : Nat -> Int) (p m : Nat) (w : World) (hc : dY w p m t n D S) :
 Calls prog 142 #[.pointer (some ⟨p, 0, none⟩)] w (aNa w t n D S) := by
 have hl := hc.ltp
 have HC := Hd hc
 clear hc
 go_enter func142, ntmps142
 go_upto_region 4 with (first
  | (refine aN rfl 166 (.tmp 7) rfl p 0 rfl _ (nX t n D S m) HC.out.cell underlying166 rfl (by rw [sW]; exact aF7) (aL _) ?_)
  | (refine aJ rfl 166 (.tmp 3) (.tmp 8) rfl _ 0 rfl (nX t n D S m) rfl (aD _ _) (by rw [sW]; exact aF7) (by rw [sW]; decide) (aIP _ _ _ _ _) ?_))
 rw [aW _ _ (by rw [sW]; rfl)]
 have hK := aY (nX t n D S m).toArray (aD w (.cells #[.int .u64 0, .int .i64 0, .int .u64 0, .int .u64 0, .int .u64 0, .int .u64 0, .int .u64 0, .int .u64 0, .int .u64 0, .int .u64 0, .int .u32 0, .int .u32 0, .int .u32 0, .int .u32 0, .int .u32 0, .int .u32 0, .int .u32 0, .int .u32 0, .map none] 166))
 have hB := aB (aE (aH w) (.cells #[.int .u64 0, .int .i64 0, .int .u64 0, .int .u64 0, .int .u64 0, .int .u64 0, .int .u64 0, .int .u64 0, .int .u64 0, .int .u64 0, .int .u32 0, .int .u32 0, .int .u32 0, .int .u32 0, .int .u32 0, .int .u32 0, .int .u32 0, .int .u32 0, .map none] 166)) (nX t n D S m).toArray (Nat.le_refl w.heap.size)
 generalize (w.alloc (.cells #[.int .u64 0, .int .i64 0, .int .u64 0, .int .u64 0, .int .u64 0, .int .u64 0, .int .u64 0, .int .u64 0, .int .u64 0, .int .u64 0, .int .u32 0, .int .u32 0, .int .u32 0, .int .u32 0, .int .u32 0, .int .u32 0, .int .u32 0, .int .u32 0, .map none] 166)).setRow w.heap.size (nX t n D S m).toArray = W at *
 have c := (HC.out.below hB).cM
 have f := aK hK 18
 have hM := (HC.out.below hB).map
 have K := Hd hK
 have hs : w.heap.size < W.heap.size := lt_of_block hK
 have HB := Hd hB
 clear hK hB
 go_wp2_with fail
 refine (aLE m n W hM).mono ?_
 rintro e w2 ⟨rfl, hM2, hb2⟩
 have K2 := aC hb2 K.out hs
 have c2 := aA K2 18
 have f2 := aK K2 18
 rw [List.getElem?_toArray, aJ8] at c2
 have HK2 := Hd K2
 clear K2
 go_wp2_with fail
 go_ret
 have hm2 := hM2.lt
 refine ⟨W.heap.size, hs, rfl, ⟨?_, hM2.kept (Below.heap_setCell _ _ _ _ (by show W.heap.size ≠ w.heap.size; omega)), HC.out.t0, HC.out.t1, HC.out.n0, HC.out.n1, HC.out.d, HC.out.s⟩, (tr HB.out hb2).setCell (p := ⟨w.heap.size, 18, none⟩) (Nat.le_refl _) _⟩
 rw [aR HK2.out]
 simp only [List.setIfInBounds_toArray]
 rw [aFg]
end Go.Proofs.YtaohacadochldaaGreat.B
