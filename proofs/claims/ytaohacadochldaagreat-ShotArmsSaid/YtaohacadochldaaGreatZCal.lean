/- A part of the proof of a law of layer 12: al. -/
import Derived.Test.YtaohacadochldaaGreatZCak
set_option linter.unusedVariables false
set_option linter.unusedSimpArgs false
set_option maxHeartbeats 12800000
set_option maxRecDepth 100000
namespace Go.Proofs.YtaohacadochldaaGreat.B
open Go.Proofs.Tryz
open List renaming getElem?_toArray -> y0q, getElem?_cons_zero -> y1q
open Go.ChangeShapes Go.WideShapes Go.RowKit Go.Sort
theorem aA0 (v : Int) (v0 : 0 <= v) : field v 0 1 = tk (v % 2 == 1) := by
 unfold field
 rw [if_pos (by decide)]
 have h : ((v.toNat / 2 ^ (0 : Int).toNat % 2 ^ min (1 : Int).toNat 32 : Nat) : Int) = v % 2 := by
  have : min (1 : Int).toNat 32 = 1 := by decide
  rw [this]
  simp; omega
 rw [h]
 rcases (show v % 2 = 0 \/ v % 2 = 1 by omega) with e | e <;> rw [e] <;> rfl
theorem aFR (b : Bool) (i : Nat) : aO (tk b) i = (b && decide (i = 0)) := by
 cases b
 . show aO 0 i = _
   unfold aO; simp
 . show aO 1 i = _
   unfold aO
   cases i with
   | zero => simp
   | succ k =>
     have h : (1 : Int) / 2 ^ (k + 1) = 0 := by
      refine Int.ediv_eq_zero_of_lt (by omega) ?_
      have : (0 : Int) < 2 ^ k := Int.pow_pos (by decide)
      rw [Int.pow_succ]; omega
     rw [h]; simp
theorem aED (b : Bool) (v : Int) (v0 : 0 <= v) (v1 : v < 4294967296) : bits BinOp.andNot IntKind.u32 (tk b) v = tk (b && !(v % 2 == 1)) := by
 have hb : ∀ b, 0 <= tk b /\ tk b < 4294967296 := fun b => by cases b <;> simp [tk]
 have ha := jC (tk b) v (hb b).1 (hb b).2 v0 v1
 refine jA ha.1 ha.2 (hb _).1 (hb _).2 fun i hi => ?_
 rw [kD _ _ i hi (hb b).1 (hb b).2 v0 v1, aFR, aFR]
 by_cases h : i = 0
 . subst h
   have e : aO v 0 = (v % 2 == 1) := by unfold aO; first | (simp; done) | (simp; rfl)
   rw [e]; first | rfl | (simp; done) | (simp; rfl)
 . simp [h]
theorem xL {P : Prop} (h : P := by
 have M1 := Hd (fun w => aIY t w h)
 have M2 := Hd (fun w => aIY s w hs)
 have HB := Hd (show Rk.behind t s = if (s.met && !t.met) = true then { s with st := true } else s from rfl)
 obtain ⟨m1, h1⟩ : ∃ m, t.met = m := ⟨_, rfl⟩
 obtain ⟨m2, h2⟩ : ∃ m, s.met = m := ⟨_, rfl⟩
 obtain ⟨R, hR⟩ : ∃ R, Rk.behind t s = R := ⟨_, rfl⟩
 rw [h1, h2, hR] at HB
 rw [h1] at M1
 rw [h2] at M2
 rw [hR]
 clear h1 h2 hR h hs
 cases m1 <;> cases m2
 all_goals
  go_enter func298, ntmps298
  go_wp2_with (refine yI rfl (.tmp 7) rfl rfl a ?_)
  refine (M1.out _).mono ?_
  rintro e w1 ⟨rfl, hb⟩
  have A := a.below hb
  have ho := aF.ofBelow (S := (· = p)) hb
  go_wp2_with fail
  refine (HF.out _ hb A).mono ?_
  rintro e w2 ⟨rfl, A2, ho2⟩
  have ho3 := ho.trans ho2
  clear ho ho2 A a hb M1
  go_wp2_with (refine yI rfl (.tmp 14) rfl rfl A2 ?_)
  refine (M2.out _).mono ?_
  rintro e w3 ⟨rfl, hb⟩
  have A3 := A2.below hb
  have ho4 := ho3.trans (aF.ofBelow (S := (· = p)) hb)
  clear ho3 A2 hb M2
  have f6 := A3.free 6
  have x6 := A3.c6
  go_wp2_with fail
  go_end0
  have hv := HB.out
  simp at hv
  subst hv
  first | exact ⟨rfl, A3, ho4⟩ | exact ⟨rfl, A3.s6 true, ho4.trans (aG _ _ _ _)⟩
 ) : P := h
theorem aFq (t s : Rk) (p x y : Nat) (w : World) (h : t.ok) (hs : s.ok) (a : dB w p dK t)
 (HF : Hid (∀ w1, Below w.heap.size w w1 -> dB w1 p dK t -> Calls prog 301 #[.pointer (some ⟨x, 0, none⟩), .pointer (some ⟨y, 0, none⟩)] w1 fun e w' => e = .returned (.tuple #[]) /\ dB w' p dK s /\ aF (· = p) w1 w')) :
 Calls prog 298 #[.pointer (some ⟨p, 0, none⟩), .func (.func 301) #[] #[.pointer (some ⟨x, 0, none⟩), .pointer (some ⟨y, 0, none⟩)]] w fun e w' => e = .returned (.tuple #[]) /\ dB w' p dK (Rk.behind t s) /\ aF (· = p) w w' := by
 exact xL
theorem aFp (t s : Rk) (p x y z : Nat) (w : World) (h : t.ok) (hs : s.ok) (a : dB w p dK t)
 (HF : Hid (∀ w1, Below w.heap.size w w1 -> dB w1 p dK t -> Calls prog 299 #[.pointer (some ⟨x, 0, none⟩), .pointer (some ⟨y, 0, none⟩), .pointer (some ⟨z, 0, none⟩)] w1 fun e w' => e = .returned (.tuple #[]) /\ dB w' p dK s /\ aF (· = p) w1 w')) :
 Calls prog 298 #[.pointer (some ⟨p, 0, none⟩), .func (.func 299) #[] #[.pointer (some ⟨x, 0, none⟩), .pointer (some ⟨y, 0, none⟩), .pointer (some ⟨z, 0, none⟩)]] w fun e w' => e = .returned (.tuple #[]) /\ dB w' p dK (Rk.behind t s) /\ aF (· = p) w w' := by
 exact xL
theorem aLf (t : Rk) (n : Int) (p x y : Nat) (w : World) (h : t.ok) (a : dB w p dK t) (n0 : 0 <= n) (n1 : n < 18446744073709551616) (hx : w.cell? ⟨x, 0, none⟩ = some (.pointer (some ⟨p, 0, none⟩))) (hy : w.cell? ⟨y, 0, none⟩ = some (.int .u64 n)) (lx : x < w.heap.size) (ly : y < w.heap.size) :
 Calls prog 301 #[.pointer (some ⟨x, 0, none⟩), .pointer (some ⟨y, 0, none⟩)] w fun e w' => e = .returned (.tuple #[]) /\ dB w' p dK (t.adv n) /\ aF (· = p) w w' := by
 have L := Hd (fun w => aLb t n w h n0 n1)
 obtain ⟨R, hR⟩ : ∃ R, t.adv n = R := ⟨_, rfl⟩
 rw [hR] at L ⊢
 clear hR h
 have hl := a.lt
 go_enter func301, ntmps301
 have hg := bC
 have hf := dE
 refine aM 9 (by kernel_rfl) (by kernel_rfl) ?_
 simp only [List.take_succ_cons, List.take_zero, List.drop_succ_cons, List.drop_zero]
 repeat (first
  | go_big_quiet_skip
  | (go_big_quiet_want; first
      | (refine aMe (.tmp 5) rfl rfl a.grown ?_; go_simp; go_big_quiet_on)
      | (go_big_quiet_op; first
          | go_big_quiet_on
          | go_big_quiet_call (first | (go_at_call 302; exact Calls.regrown_of (L.out _))))))
 refine wpQuiet_nil ?_
 intro _ hw'
 obtain ⟨⟨dq, osq⟩, hw''⟩ := hw'
 subst hw''
 have hb := below_regrown w dq osq
 have A := a.below hb
 have ho := aF.ofBelow (S := (· = p)) hb
 clear hx hy lx ly hl hg hf a hb
 generalize grow (redrawn w dq) osq = W at *
 go_wp2_with (refine sC rfl (.tmp 10) (.tmp 8) rfl rfl (t := R) rfl A ?_)
 go_end0
 exact ⟨rfl, dB.row A R, ho.trans (aBP _ _ _)⟩
theorem aN7 (t : Rk) (n : Int) (p : Nat) (w : World) (h : t.ok) (a : dB w p dK t) (n0 : 0 <= n) (n1 : n < 18446744073709551616) :
 Calls prog 297 #[.pointer (some ⟨p, 0, none⟩), .int .u64 n] w fun e w' => e = .returned (.tuple #[]) /\ dB w' p dK (t.tick n) /\ aF (· = p) w w' := by
 have hmf : ∀ (fn : Fn) (first cap : Array Value) (w : World), (Instr.makeFunc fn first cap).run prog w = .ok (.func fn first cap) w := fun _ _ _ _ => rfl
 have hB := aE (aE (aH w) (.cells #[.pointer (some ⟨p, 0, none⟩)] 114 (0, 0))) (.cells #[.int .u64 n] 24 (0, 0))
 have A := a.below hB
 have h0 := bM w (.cells #[.pointer (some ⟨p, 0, none⟩)] 114 (0, 0)) (.cells #[.int .u64 n] 24 (0, 0))
 have h1 := bU w (.cells #[.pointer (some ⟨p, 0, none⟩)] 114 (0, 0)) (.cells #[.int .u64 n] 24 (0, 0))
 have HN := Hd (fun w => aKF t w h)
 have HT := Hd (fun w p x y a hx hy lx ly => aLf t n p x y w h a n0 n1 hx hy lx ly)
 have HC := Hd (fun p x y w a HF => aFq t (t.adv n) p x y w h (Rk.adv_ok h n0) a HF)
 have HR : Rk.behind t (t.adv n) = t.tick n := rfl
 rw [HR] at HC
 obtain ⟨R, hR⟩ : ∃ R, t.tick n = R := ⟨_, rfl⟩
 obtain ⟨S, hS⟩ : ∃ S, t.adv n = S := ⟨_, rfl⟩
 rw [hR] at HC ⊢
 rw [hS] at HC HT
 clear hR hS HR h a
 go_enter func297, ntmps297
 go_upto_region 1 with (fail)
 generalize (w.alloc (.cells #[.pointer (some ⟨p, 0, none⟩)] 114 (0, 0))).alloc (.cells #[.int .u64 n] 24 (0, 0)) = W at *
 have c0 := aA h0 0
 have c1 := aA h1 0
 simp only [y0q, y1q] at c0 c1
 go_wp2_with fail
 refine (tR t p _ A).mono ?_
 rintro e w1 ⟨rfl, hb1⟩
 go_wp2_with fail
 refine (HN.out _).mono ?_
 rintro e w2 ⟨rfl, hb2⟩
 have hb := tr hb1 hb2
 have A2 := A.below hb
 have hB2 := tr hB hb
 have k0 := aC hb h0 (gO h0)
 have k1 := aC hb h1 (gO h1)
 clear c0 c1 h0 h1 hB A hb hb1 hb2 HN
 have c0 := aA k0 0
 simp only [y0q, y1q] at c0
 go_wp2_with fail
 refine (HC.out _ _ _ _ A2 (Hd fun w3 hb3 A3 => ?_)).mono ?_
 . have m0 := aC hb3 k0 (gO k0)
   have m1 := aC hb3 k1 (gO k1)
   have c0 := aA m0 0
   have c1 := aA m1 0
   simp only [y0q, y1q] at c0 c1
   exact HT.out _ _ _ _ A3 c0 c1 (gO m0) (gO m1)
 . rintro e w3 ⟨rfl, A3, ho⟩
   go_wp2_with fail
   go_end0
   exact ⟨rfl, A3, (aF.ofBelow hB2).trans ho⟩
theorem aLh (t : Rk) (o v : Int) (p : Nat) (w : World) (h : t.ok) (A : dB w p dK t) (ho : o = 8 \/ o = 12 \/ o = 16 \/ o = 20 \/ o = 24 \/ o = 28) (v0 : 0 <= v) (v1 : v < 4294967296) :
 Calls prog 300 #[.pointer (some ⟨p, 0, none⟩), .int .u32 o, .int .u32 v] w fun e w' => e = .returned (.tuple #[]) /\ dB w' p dK (t.wr o v) /\ aF (· = p) w w' := by
 obtain ⟨b0, b1⟩ := Rk.alarm_bounds h
 rcases ho with rfl | rfl | rfl | rfl | rfl | rfl
 . rw [show t.wr 8 v = { t with set := v } from rfl]
   have x0 := A.c2
   have f2 := A.free 2
   have Z := A.s2 v
   clear h b0 b1
   go_enter func300, ntmps300
   go_wp2_with fail
   go_end0
   exact ⟨rfl, Z, aG _ _ _ _⟩
 . rw [show t.wr 12 v = { t with sec := cZ v t.set, rest := 0 } from rfl]
   have K0 := Hd (fun w => aFA v t.set w v0 v1 h.w0 h.w1)
   have x0 := A.c2
   have x1 := A.c3
   have x2 := A.c1
   have f3 := A.free 3
   have f1 := A.free 1
   have Z := (A.s3 (cZ v t.set)).s1 0
   clear h b0 b1
   go_enter func300, ntmps300
   go_wp2_with (first | (go_at_call 273; refine (K0.out _).mono ?_; rintro e w' ⟨rfl, rfl⟩))
   go_end0
   exact ⟨rfl, Z, (aG _ _ _ _).trans (aG _ _ _ _)⟩
 . rw [show t.wr 16 v = { t with al := v } from rfl]
   have K0 := Hd (fun w => by have := Hi t.alarm w b0 b1; unfold Rk.alarm at this; rw [aA7 _ _ h.l0 h.l1] at this; exact this)
   have K1 := Hd (fun w => aFA t.ah v w h.h0 h.h1 v0 v1)
   have x0 := A.c4
   have f4 := A.free 4
   have Z := A.s4 t.ah v
   clear h b0 b1
   go_enter func300, ntmps300
   go_wp2_with (first | (go_at_call 56; refine (K0.out _).mono ?_; rintro e w' ⟨rfl, rfl⟩) | (go_at_call 273; refine (K1.out _).mono ?_; rintro e w' ⟨rfl, rfl⟩))
   go_end0
   exact ⟨rfl, Z, aG _ _ _ _⟩
 . rw [show t.wr 20 v = { t with ah := v } from rfl]
   have K0 := Hd (fun w => by have := Lo t.alarm w b0 b1; unfold Rk.alarm at this; rw [aBJ _ _ h.l0 h.l1] at this; exact this)
   have K1 := Hd (fun w => aFA v t.al w v0 v1 h.l0 h.l1)
   have x0 := A.c4
   have f4 := A.free 4
   have Z := A.s4 v t.al
   clear h b0 b1
   go_enter func300, ntmps300
   go_wp2_with (first | (go_at_call 55; refine (K0.out _).mono ?_; rintro e w' ⟨rfl, rfl⟩) | (go_at_call 273; refine (K1.out _).mono ?_; rintro e w' ⟨rfl, rfl⟩))
   go_end0
   exact ⟨rfl, Z, aG _ _ _ _⟩
 . rw [show t.wr 24 v = { t with en := (v % 2 == 1) } from rfl]
   have K0 := Hd (fun w => by have := Field v 0 1 w v0 v1 (by omega) (by omega); rw [aA0 v v0] at this; exact this)
   have f5 := A.free 5
   clear h b0 b1
   go_enter func300, ntmps300
   go_wp2_with fail
   refine (K0.out _).mono ?_
   rintro e w1 ⟨rfl, k, rfl⟩
   have hb := vG (aH w) k
   have A1 := A.below hb
   have f5 := A1.free 5
   have x5 := A1.c5
   have Z := A1.s5 (v % 2 == 1)
   have hb := aF.ofBelow (S := (· = p)) hb
   clear A
   generalize w.drewN k = W at *
   go_wp2_with fail
   go_end0
   exact ⟨rfl, Z, hb.trans (aG _ _ _ _)⟩
 . rw [show t.wr 28 v = { t with st := t.st && !(v % 2 == 1) } from rfl]
   have x0 := A.c6
   have f6 := A.free 6
   have Z := A.s6 (t.st && !(v % 2 == 1))
   have HN := Hd (aED t.st v v0 v1)
   clear h b0 b1
   go_enter func300, ntmps300
   go_wp2_with fail
   go_end0
   rw [HN.out]
   exact ⟨rfl, Z, aG _ _ _ _⟩
theorem aIZ (t : Rk) (o v : Int) (p x y z : Nat) (w : World) (h : t.ok) (a : dB w p dK t) (ho : o = 8 \/ o = 12 \/ o = 16 \/ o = 20 \/ o = 24 \/ o = 28) (v0 : 0 <= v) (v1 : v < 4294967296) (hx : w.cell? ⟨x, 0, none⟩ = some (.pointer (some ⟨p, 0, none⟩))) (hy : w.cell? ⟨y, 0, none⟩ = some (.int .u32 o)) (hz : w.cell? ⟨z, 0, none⟩ = some (.int .u32 v)) :
 Calls prog 299 #[.pointer (some ⟨x, 0, none⟩), .pointer (some ⟨y, 0, none⟩), .pointer (some ⟨z, 0, none⟩)] w fun e w' => e = .returned (.tuple #[]) /\ dB w' p dK (t.wr o v) /\ aF (· = p) w w' := by
 have HW := Hd (fun w A => aLh t o v p w h A ho v0 v1)
 obtain ⟨R, hR⟩ : ∃ R, t.wr o v = R := ⟨_, rfl⟩
 rw [hR] at HW ⊢
 clear hR h ho
 go_enter func299, ntmps299
 go_wp2_with fail
 refine (HW.out _ a).mono ?_
 exact rL
theorem aBp {o : Int} (o0 : 0 <= o) (h : bF o = 0) : (o = 8 \/ o = 12 \/ o = 16 \/ o = 20 \/ o = 24 \/ o = 28) \/ (o = 0 \/ o = 4 \/ o = 32) := by
 rcases lW o0 h with h | h | h | h | h | h | h | h | h <;> simp [h]
theorem aEQ (t : Rk) (o v : Int) (p : Nat) (w : World) (h : t.ok) (a : dB w p dK t) (ho : o = 8 \/ o = 12 \/ o = 16 \/ o = 20 \/ o = 24 \/ o = 28) (v0 : 0 <= v) (v1 : v < 4294967296) :
 Calls prog 296 #[.pointer (some ⟨p, 0, none⟩), .int .u32 o, .int .u32 v] w fun e w' => e = .returned (.int .i64 0) /\ dB w' p dK (t.sto o v) /\ aF (· = p) w w' := by
 have hmf : ∀ (fn : Fn) (first cap : Array Value) (w : World), (Instr.makeFunc fn first cap).run prog w = .ok (.func fn first cap) w := fun _ _ _ _ => rfl
 have he : bF o = 0 := by rcases ho with rfl | rfl | rfl | rfl | rfl | rfl <;> rfl
 have h0 := aCA w (.cells #[.pointer (some ⟨p, 0, none⟩)] 114 (0, 0)) (.cells #[.int .u32 o] 26 (0, 0)) (.cells #[.int .u32 v] 26 (0, 0))
 have h1 := aCB w (.cells #[.pointer (some ⟨p, 0, none⟩)] 114 (0, 0)) (.cells #[.int .u32 o] 26 (0, 0)) (.cells #[.int .u32 v] 26 (0, 0))
 have h2 := aCC w (.cells #[.pointer (some ⟨p, 0, none⟩)] 114 (0, 0)) (.cells #[.int .u32 o] 26 (0, 0)) (.cells #[.int .u32 v] 26 (0, 0))
 have hB := aE (aE (aE (aH w) (.cells #[.pointer (some ⟨p, 0, none⟩)] 114 (0, 0))) (.cells #[.int .u32 o] 26 (0, 0))) (.cells #[.int .u32 v] 26 (0, 0))
 have A := a.below hB
 have o0 : 0 <= o := by omega
 have o1 : o < 4294967296 := by omega
 have q0 : (o == 0) = false := by simp; omega
 have q4 : (o == 4) = false := by simp; omega
 have q32 : (o == 32) = false := by simp; omega
 have HC := Hd (fun w a => by have := aCT t o p w h a o0 o1; rw [he] at this; exact this)
 have HT := Hd (fun w x y z a hx hy hz => aIZ t o v p x y z w h a ho v0 v1 hx hy hz)
 have HH := Hd (fun x y z w a HF => aFp t (t.wr o v) p x y z w h (Rk.wr_ok h v0 v1) a HF)
 have HR : Rk.behind t (t.wr o v) = t.sto o v := by unfold Rk.sto; rw [if_pos ho]
 rw [HR] at HH
 obtain ⟨R, hR⟩ : ∃ R, t.sto o v = R := ⟨_, rfl⟩
 obtain ⟨S, hS⟩ : ∃ S, t.wr o v = S := ⟨_, rfl⟩
 rw [hR] at HH ⊢
 rw [hS] at HH HT
 clear hR hS HR h a he ho
 go_enter func296, ntmps296
 go_upto_region 1 with (fail)
 generalize ((w.alloc (.cells #[.pointer (some ⟨p, 0, none⟩)] 114 (0, 0))).alloc (.cells #[.int .u32 o] 26 (0, 0))).alloc (.cells #[.int .u32 v] 26 (0, 0)) = W at *
 have c0 := aA h0 0
 have c1 := aA h1 0
 simp only [y0q, y1q] at c0 c1
 go_wp2_with fail
 refine (HC.out _ A).mono ?_
 rintro e w1 ⟨rfl, hb⟩
 have A2 := A.below hb
 have hB2 := tr hB hb
 have k0 := aC hb h0 (gO h0)
 have k1 := aC hb h1 (gO h1)
 have k2 := aC hb h2 (gO h2)
 clear c0 c1 h0 h1 h2 hB A hb HC
 have c0 := aA k0 0
 have c1 := aA k1 0
 have c2 := aA k2 0
 simp only [y0q, y1q] at c0 c1 c2
 go_wp2_with fail
 refine (HH.out _ _ _ _ A2 (Hd fun w3 hb3 A3 => ?_)).mono ?_
 . have m0 := aC hb3 k0 (gO k0)
   have m1 := aC hb3 k1 (gO k1)
   have m2 := aC hb3 k2 (gO k2)
   have c0 := aA m0 0
   have c1 := aA m1 0
   have c2 := aA m2 0
   simp only [y0q, y1q] at c0 c1 c2
   exact HT.out _ _ _ _ A3 c0 c1 c2
 . rintro e w3 ⟨rfl, A3, ho⟩
   go_wp2_with fail
   go_ret
   exact ⟨rfl, A3, (aF.ofBelow hB2).trans ho⟩
theorem nS {P : Prop} (h : P := by
 have c0 := aA h0 0
 have c1 := aA h1 0
 simp only [List.getElem?_toArray, List.getElem?_cons_zero] at c0 c1
 go_wp2_with fail
 refine (HC.out _ A).mono ?_
 rintro e w1 ⟨rfl, hb⟩
 have A2 := A.below hb
 have hB2 := tr hB hb
 have k0 := aC hb h0 (gO h0)
 have k1 := aC hb h1 (gO h1)
 have k2 := aC hb h2 (gO h2)
 clear c0 c1 h0 h1 h2 hB A hb HC
 have c0 := aA k0 0
 have c1 := aA k1 0
 have c2 := aA k2 0
 simp only [List.getElem?_toArray, List.getElem?_cons_zero] at c0 c1 c2
 go_wp2_with fail
 go_ret
 exact ⟨rfl, hB2⟩
 ) : P := h
theorem aFs (t : Rk) (o v : Int) (p : Nat) (w : World) (h : t.ok) (a : dB w p dK t) (o0 : 0 <= o) (o1 : o < 4294967296) (hn : gY o ≠ 0) :
 Calls prog 296 #[.pointer (some ⟨p, 0, none⟩), .int .u32 o, .int .u32 v] w fun e w' => e = .returned (.int .i64 (gY o)) /\ Below w.heap.size w w' := by
 have h0 := aCA w (.cells #[.pointer (some ⟨p, 0, none⟩)] 114 (0, 0)) (.cells #[.int .u32 o] 26 (0, 0)) (.cells #[.int .u32 v] 26 (0, 0))
 have h1 := aCB w (.cells #[.pointer (some ⟨p, 0, none⟩)] 114 (0, 0)) (.cells #[.int .u32 o] 26 (0, 0)) (.cells #[.int .u32 v] 26 (0, 0))
 have h2 := aCC w (.cells #[.pointer (some ⟨p, 0, none⟩)] 114 (0, 0)) (.cells #[.int .u32 o] 26 (0, 0)) (.cells #[.int .u32 v] 26 (0, 0))
 have hB := aE (aE (aE (aH w) (.cells #[.pointer (some ⟨p, 0, none⟩)] 114 (0, 0))) (.cells #[.int .u32 o] 26 (0, 0))) (.cells #[.int .u32 v] 26 (0, 0))
 have A := a.below hB
 have HC := Hd (fun w a => aCT t o p w h a o0 o1)
 clear h a
 by_cases he : bF o = 0
 . have hw : gY o = 12 := by
    unfold gY at hn ⊢
    rw [if_neg (by omega)] at hn ⊢
    split at hn
    . rename_i hc; rw [if_pos hc]
    . omega
   have hc : o = 0 \/ o = 4 \/ o = 32 := by
    unfold gY at hn
    rw [if_neg (by omega)] at hn
    split at hn
    . assumption
    . omega
   rw [hw]
   rw [he] at HC
   clear hn he hw
   rcases hc with rfl | rfl | rfl
   . go_enter func296, ntmps296
     go_upto_region 1 with (fail)
     generalize ((w.alloc (.cells #[.pointer (some ⟨p, 0, none⟩)] 114 (0, 0))).alloc (.cells #[.int .u32 0] 26 (0, 0))).alloc (.cells #[.int .u32 v] 26 (0, 0)) = W at *
     exact nS
   . go_enter func296, ntmps296
     go_upto_region 1 with (fail)
     generalize ((w.alloc (.cells #[.pointer (some ⟨p, 0, none⟩)] 114 (0, 0))).alloc (.cells #[.int .u32 4] 26 (0, 0))).alloc (.cells #[.int .u32 v] 26 (0, 0)) = W at *
     exact nS
   . go_enter func296, ntmps296
     go_upto_region 1 with (fail)
     generalize ((w.alloc (.cells #[.pointer (some ⟨p, 0, none⟩)] 114 (0, 0))).alloc (.cells #[.int .u32 32] 26 (0, 0))).alloc (.cells #[.int .u32 v] 26 (0, 0)) = W at *
     exact nS
 . have hw : gY o = bF o := by unfold gY; rw [if_pos he]
   rw [hw]
   clear hn hw
   obtain ⟨E, hE⟩ : ∃ E, bF o = E := ⟨_, rfl⟩
   rw [hE] at HC he ⊢
   have n1 : (E == 0) = false := by simpa using he
   have n2 : (E != 0) = true := by simpa using he
   clear hE he
   go_enter func296, ntmps296
   go_upto_region 1 with (fail)
   generalize ((w.alloc (.cells #[.pointer (some ⟨p, 0, none⟩)] 114 (0, 0))).alloc (.cells #[.int .u32 o] 26 (0, 0))).alloc (.cells #[.int .u32 v] 26 (0, 0)) = W at *
   exact nS
theorem aDG {o : Int} (o0 : 0 <= o) (h : gY o = 0) : o = 8 \/ o = 12 \/ o = 16 \/ o = 20 \/ o = 24 \/ o = 28 := by
 unfold gY at h
 split at h
 . omega
 . rename_i he
   split at h
   . omega
   . rcases aBp o0 (by omega) with hc | hc
     . exact hc
     . contradiction
theorem aD2 {t : Rk} {o : Int} (v : Int) (h : gY o ≠ 0) : t.sto o v = t := by
 unfold Rk.sto
 rw [if_neg]
 intro hc
 rcases hc with rfl | rfl | rfl | rfl | rfl | rfl <;> exact h rfl
theorem aLe (t : Rk) (o v : Int) (p : Nat) (w : World) (h : t.ok) (a : dB w p dK t) (o0 : 0 <= o) (o1 : o < 4294967296) (v0 : 0 <= v) (v1 : v < 4294967296) :
 Calls prog 296 #[.pointer (some ⟨p, 0, none⟩), .int .u32 o, .int .u32 v] w fun e w' => e = .returned (.int .i64 (gY o)) /\ dB w' p dK (t.sto o v) /\ aF (· = p) w w' := by
 by_cases hn : gY o = 0
 . rw [hn]
   exact aEQ t o v p w h a (aDG o0 hn) v0 v1
 . refine (aFs t o v p w h a o0 o1 hn).mono ?_
   rintro e w' ⟨rfl, hb⟩
   rw [aD2 v hn]
   exact ⟨rfl, a.below hb, aF.ofBelow hb⟩
inductive Wh
 | odd | no | cl (o : Int) | bk (o : Int) | dg (o : Int) | rs (o : Int) | rk (o : Int) | ln (o : Int)
def wh (a : Int) : Wh :=
 if a % 4 ≠ 0 then .odd else if 33554432 <= a /\ a < 33603584 then .cl (a - 33554432) else if 268500992 <= a /\ a < 268501248 then .bk (a - 268500992) else if 268566528 <= a /\ a < 268566548 then .dg (a - 268566528)
 else if 268632064 <= a /\ a < 268632080 then .rs (a - 268632064) else if 268697600 <= a /\ a < 268697636 then .rk (a - 268697600) else if 268763136 <= a /\ a < 268763148 then .ln (a - 268763136) else .no
inductive aPV (a : Int) : Prop
 | odd (h : a % 4 ≠ 0) (e : wh a = .odd)
 | cl (h4 : a % 4 = 0) (h0 : 33554432 <= a) (h1 : a < 33603584) (e : wh a = .cl (a - 33554432))
 | bk (h4 : a % 4 = 0) (h0 : 268500992 <= a) (h1 : a < 268501248) (e : wh a = .bk (a - 268500992))
 | dg (h4 : a % 4 = 0) (h0 : 268566528 <= a) (h1 : a < 268566548) (e : wh a = .dg (a - 268566528))
 | rs (h4 : a % 4 = 0) (h0 : 268632064 <= a) (h1 : a < 268632080) (e : wh a = .rs (a - 268632064))
 | rk (h4 : a % 4 = 0) (h0 : 268697600 <= a) (h1 : a < 268697636) (e : wh a = .rk (a - 268697600))
 | ln (h4 : a % 4 = 0) (h0 : 268763136 <= a) (h1 : a < 268763148) (e : wh a = .ln (a - 268763136))
 | no (h4 : a % 4 = 0) (h : ¬ (33554432 <= a /\ a < 33603584) /\ ¬ (268500992 <= a /\ a < 268501248) /\ ¬ (268566528 <= a /\ a < 268566548) /\ ¬ (268632064 <= a /\ a < 268632080) /\ ¬ (268697600 <= a /\ a < 268697636) /\ ¬ (268763136 <= a /\ a < 268763148)) (e : wh a = .no)
theorem pK (a : Int) : aPV a := by
 by_cases h4 : a % 4 = 0
 . by_cases h1 : 33554432 <= a /\ a < 33603584
   . exact .cl h4 h1.1 h1.2 (by unfold wh; rw [if_neg (by omega), if_pos h1])
   . by_cases h2 : 268500992 <= a /\ a < 268501248
     . exact .bk h4 h2.1 h2.2 (by unfold wh; rw [if_neg (by omega), if_neg h1, if_pos h2])
     . by_cases h3 : 268566528 <= a /\ a < 268566548
       . exact .dg h4 h3.1 h3.2 (by unfold wh; rw [if_neg (by omega), if_neg h1, if_neg h2, if_pos h3])
       . by_cases h5 : 268632064 <= a /\ a < 268632080
         . exact .rs h4 h5.1 h5.2 (by unfold wh; rw [if_neg (by omega), if_neg h1, if_neg h2, if_neg h3, if_pos h5])
         . by_cases h6 : 268697600 <= a /\ a < 268697636
           . exact .rk h4 h6.1 h6.2 (by unfold wh; rw [if_neg (by omega), if_neg h1, if_neg h2, if_neg h3, if_neg h5, if_pos h6])
           . by_cases h7 : 268763136 <= a /\ a < 268763148
             . exact .ln h4 h7.1 h7.2 (by unfold wh; rw [if_neg (by omega), if_neg h1, if_neg h2, if_neg h3, if_neg h5, if_neg h6, if_pos h7])
             . exact .no h4 ⟨h1, h2, h3, h5, h6, h7⟩ (by unfold wh; rw [if_neg (by omega), if_neg h1, if_neg h2, if_neg h3, if_neg h5, if_neg h6, if_neg h7])
 . exact .odd h4 (by unfold wh; rw [if_pos h4])
def Bx.ldv (n c : Nat) (x : Bx) (a : Int) : Int := match wh a with
 | .odd => 0 | .no => 0 | .cl o => mS x.ti n x.D x.S o | .bk o => zY c x.tm o | .dg o => x.wd.val o | .rs o => iP x.rs o | .rk o => x.rk.valE o | .ln o => aBC (wires n c x) x.msk o
def Bx.lde (n c : Nat) (a : Int) : Int := match wh a with
 | .odd => 11 | .no => 10 | .cl o => gF n o | .bk o => jP c o | .dg o => eS o | .rs o => dD o | .rk o => bF o | .ln o => gZ o
def Bx.put (n c : Nat) (x : Bx) (a v : Int) : Bx := match wh a with
 | .odd => x | .no => x | .cl o => { x with D := eT n x.D o v, S := eU n x.S o v } | .bk o => { x with tm := kL c x.tm o v } | .dg o => { x with wd := x.wd.sto o v } | .rs o => { x with rs := x.rs.sto o v }
 | .rk o => { x with rk := x.rk.sto o v } | .ln o => if o = 4 then { x with msk := v } else x
def Bx.ste (n c : Nat) (a : Int) : Int := match wh a with
 | .odd => 11 | .no => 10 | .cl o => eP n o | .bk o => mE c o | .dg o => kQ o | .rs o => kP o | .rk o => gY o | .ln o => oN o
def Bx.due (x : Bx) : Int := if x.rs.qs = true then 16 else x.wd.fa
def Bx.look (x : Bx) : Bx := if x.due = 0 then x else x.rst x.due
def Bx.sto (n c : Nat) (x : Bx) (a v : Int) : Bx := (x.put n c a v).look
section
variable {n c : Nat} {x : Bx}
theorem aIj {t : Nat -> Tm} (h : ∀ i, i < c -> (t i).ok) {o v : Int} (v0 : 0 <= v) (v1 : v < 4294967296) : ∀ i, i < c -> (kL c t o v i).ok := by
 intro i hi
 unfold kL
 split
 . unfold oO
   split
   . rename_i e; subst e; exact Tm.sto_ok (h _ hi) _ _ v0 v1
   . exact h i hi
 . exact h i hi
theorem aFd {D : Nat -> Int} (h : okD D) {o v : Int} (v0 : 0 <= v) (v1 : v < 4294967296) : okD (eT n D o v) := by
 unfold eT
 split
 . split
   . exact h.upd _ (gV (kA (h _).1) (yC (h _).2) v0 v1).1 (gV (kA (h _).1) (yC (h _).2) v0 v1).2
   . exact h.upd _ (gV v0 v1 (dQ _) (mF _)).1 (gV v0 v1 (dQ _) (mF _)).2
 . exact h
theorem aFe {S : Nat -> Int} (h : okS S) {o v : Int} (v0 : 0 <= v) : okS (eU n S o v) := by
 unfold eU
 split
 . exact h.upd _ (by omega) (by omega)
 . exact h
theorem Bx.put_ok (h : x.ok n c) {a v : Int} (v0 : 0 <= v) (v1 : v < 4294967296) : (x.put n c a v).ok n c := by
 unfold Bx.put
 split
 . exact h
 . exact h
 . exact ⟨h.n0, h.n8, h.c0, h.c8, h.t0, h.t1, aFd h.d v0 v1, aFe h.s v0, h.tm, h.wd, h.rs, h.rk, h.m0, h.m1⟩
 . exact ⟨h.n0, h.n8, h.c0, h.c8, h.t0, h.t1, h.d, h.s, aIj h.tm v0 v1, h.wd, h.rs, h.rk, h.m0, h.m1⟩
 . exact ⟨h.n0, h.n8, h.c0, h.c8, h.t0, h.t1, h.d, h.s, h.tm, Wd.sto_ok h.wd v0 v1, h.rs, h.rk, h.m0, h.m1⟩
 . exact ⟨h.n0, h.n8, h.c0, h.c8, h.t0, h.t1, h.d, h.s, h.tm, h.wd, Rs.sto_ok h.rs v0 v1, h.rk, h.m0, h.m1⟩
 . exact ⟨h.n0, h.n8, h.c0, h.c8, h.t0, h.t1, h.d, h.s, h.tm, h.wd, h.rs, Rk.sto_ok h.rk v0 v1, h.m0, h.m1⟩
 . split
   . exact ⟨h.n0, h.n8, h.c0, h.c8, h.t0, h.t1, h.d, h.s, h.tm, h.wd, h.rs, h.rk, v0, v1⟩
   . exact h
theorem Wd.sto_fa {t : Wd} (h : t.fa = 0) (o v : Int) : (t.sto o v).fa = 0 \/ (t.sto o v).fa = 4 \/ (t.sto o v).fa = 8 := by
 unfold Wd.sto Wd.ctlPut Wd.ctlTo Wd.key
 (repeat' split) <;> simp [h]
theorem Bx.put_due (hs : x.still) (a v : Int) : ((x.put n c a v).wd.fa = 0 \/ (x.put n c a v).wd.fa = 4 \/ (x.put n c a v).wd.fa = 8) /\ ((x.put n c a v).rs.qs = false \/ (x.put n c a v).wd.fa = 0) := by
 obtain ⟨h1, h2⟩ := hs
 unfold Bx.put
 split
 . exact ⟨.inl h1, .inl h2⟩
 . exact ⟨.inl h1, .inl h2⟩
 . exact ⟨.inl h1, .inl h2⟩
 . exact ⟨.inl h1, .inl h2⟩
 . exact ⟨Wd.sto_fa h1 _ _, .inl h2⟩
 . exact ⟨.inl h1, .inr h1⟩
 . exact ⟨.inl h1, .inl h2⟩
 . split
   . exact ⟨.inl h1, .inl h2⟩
   . exact ⟨.inl h1, .inl h2⟩
theorem Bx.put_isC (hs : x.still) (a v : Int) : (x.put n c a v).due = 0 \/ pY (x.put n c a v).due := by
 have h := Bx.put_due (n := n) (c := c) hs a v
 unfold Bx.due
 split
 . exact .inr (.inr (.inr (.inr rfl)))
 . rcases h.1 with e | e | e
   . exact .inl e
   . exact .inr (.inr (.inl e))
   . exact .inr (.inr (.inr (.inl e)))
theorem Bx.look_ok (h : x.ok n c) (hc : x.due = 0 \/ pY x.due) : (x.look).ok n c /\ (x.look).still := by
 unfold Bx.look
 split
 . rename_i e
   refine ⟨h, ?_⟩
   unfold Bx.due at e
   split at e
   . exact absurd e (by decide)
   . rename_i q
     exact ⟨e, by simpa using q⟩
 . rename_i e
   exact ⟨Bx.rst_ok h _, Bx.rst_still (hc.resolve_left e)⟩
theorem Bx.sto_ok (h : x.ok n c) (hs : x.still) {a v : Int} (v0 : 0 <= v) (v1 : v < 4294967296) : (x.sto n c a v).ok n c /\ (x.sto n c a v).still :=
 Bx.look_ok (Bx.put_ok h v0 v1) (Bx.put_isC hs a v)
theorem Bx.look_still (hs : x.still) : x.look = x := by
 have e : x.due = 0 := by unfold Bx.due; rw [if_neg (by rw [hs.2]; decide)]; exact hs.1
 unfold Bx.look
 rw [if_pos e]
theorem Bx.put_err {a v : Int} (h : Bx.ste n c a ≠ 0) : x.put n c a v = x := by
 unfold Bx.ste at h
 unfold Bx.put
 cases hw : wh a with
 | odd => rfl
 | no => rfl
 | cl o =>
   rw [hw] at h
   show ({ x with D := eT n x.D o v, S := eU n x.S o v } : Bx) = x
   rw [iF h, iG h]
 | bk o =>
   rw [hw] at h
   have h : mE c o ≠ 0 := h
   have e : kL c x.tm o v = x.tm := by unfold kL; rw [if_neg h]
   show ({ x with tm := kL c x.tm o v } : Bx) = x
   rw [e]
 | dg o =>
   rw [hw] at h
   have h : kQ o ≠ 0 := h
   have e : x.wd.sto o v = x.wd := by
    refine Wd.sto_same ?_
    refine ⟨?_, ?_, ?_, ?_⟩ <;> rintro rfl <;> exact h (by decide)
   show ({ x with wd := x.wd.sto o v } : Bx) = x
   rw [e]
 | rs o =>
   rw [hw] at h
   have h : kP o ≠ 0 := h
   have e : x.rs.sto o v = x.rs := by
    unfold Rs.sto
    rw [if_neg (by rintro rfl; exact h (by decide)), if_neg (by rintro rfl; exact h (by decide))]
   show ({ x with rs := x.rs.sto o v } : Bx) = x
   rw [e]
 | rk o =>
   rw [hw] at h
   have h : gY o ≠ 0 := h
   show ({ x with rk := x.rk.sto o v } : Bx) = x
   rw [aD2 v h]
 | ln o =>
   rw [hw] at h
   have h : oN o ≠ 0 := h
   show (if o = 4 then ({ x with msk := v } : Bx) else x) = x
   rw [if_neg (by rintro rfl; exact h (by decide))]
end
structure Rg where
 v : Int
 s : Int
 r : Int
 c : Int
def Rg.val (x : Rg) : Value := .agg #[.int .u32 x.v, .int .u32 x.s, .int .u32 x.r, .int .u32 x.c]
def Rg.wf (x : Rg) : Prop := (0 <= x.v /\ x.v < 4294967296) /\ (0 <= x.s /\ x.s < 4294967296) /\ (0 <= x.r /\ x.r < 4294967296) /\ (0 <= x.c /\ x.c < 4294967296)
def gG (b s a : Int) : Bool := decide (b <= a /\ a - b < s)
theorem aQH (b s a : Int) (w : World) (b0 : 0 <= b) (b1 : b < 4294967296) (s0 : 0 <= s) (s1 : s < 4294967296) (a0 : 0 <= a) (a1 : a < 4294967296) :
 Calls prog 221 #[.agg #[.int .u32 b, .int .u32 s], .int .u32 a] w fun e w' => e = .returned (.bool (gG b s a)) /\ Below w.heap.size w w' := by
 by_cases h1 : b <= a
 . by_cases h2 : a - b < s
   all_goals
    have h3 : decide (a - b < s) = gG b s a := by unfold gG; rw [decide_eq_decide]; omega
    have h4 := Hd h3
    clear h3
    go_enter func221, ntmps221
    go_wp2_with fail
    go_ret
    exact ⟨cU (by rw [<- h4.out]; simp; omega), aE (aH w) _⟩
 . have h3 : gG b s a = false := by unfold gG; simp; omega
   have h4 := Hd h3
   clear h3
   go_enter func221, ntmps221
   go_wp2_with fail
   go_ret
   exact ⟨cU h4.out.symm, aE (aH w) _⟩
theorem aNL (b s : Int) (w : World) (b0 : 0 <= b) (b1 : b < 4294967296) (s0 : 0 <= s) (s1 : s < 4294967296) :
 Calls prog 213 #[.agg #[.int .u32 b, .int .u32 s]] w fun e w' => e = .returned (.int .u64 (b + s)) /\ Below w.heap.size w w' := by
 go_enter func213, ntmps213
 go_wp2_with fail
 go_ret
 refine ⟨bJ ?_, aE (aH w) _⟩
 rfl
theorem aH5 (b s a : Int) (v : Bool) (w : World) (b0 : 0 <= b) (b1 : b < 4294967296) (s0 : 0 <= s) (s1 : s < 4294967296) (a0 : 0 <= a) (a1 : a < 4294967296) (hv : gG b s a = v) :
 Calls prog 221 #[.agg #[.int .u32 b, .int .u32 s], .int .u32 a] w fun e w' => e = .returned (.bool v) /\ Below w.heap.size w w' := by
 rw [<- hv]; exact aQH b s a w b0 b1 s0 s1 a0 a1
def aBM (b s c t : Int) : Bool := decide ((if b <= c then c else b) < (if b + s <= c + t then b + s else c + t))
theorem aPG (b s c t : Int) (w : World) (b0 : 0 <= b) (b1 : b < 4294967296) (s0 : 0 <= s) (s1 : s < 4294967296) (c0 : 0 <= c) (c1 : c < 4294967296) (t0 : 0 <= t) (t1 : t < 4294967296) :
 Calls prog 216 #[.agg #[.int .u32 b, .int .u32 s], .agg #[.int .u32 c, .int .u32 t]] w fun e w' => e = .returned (.bool (aBM b s c t)) /\ Below w.heap.size w w' := by
 have hg := bC
 have hf := dE
 have hs0 : w.heap.size < w.heap.size + 1 + 1 := by omega
 have hs1 : w.heap.size + 1 < w.heap.size + 1 + 1 := by omega
 go_enter func216, ntmps216
 go_wp2_with fail
 refine wp_region_quiet_below (by kernel_rfl) (by kernel_rfl) ?_
 repeat (go_big_quiet_step (first
  | (go_at_call 213; exact Calls.regrown_of (aNL _ _ _ b0 b1 s0 s1))
  | (go_at_call 213; exact Calls.regrown_of (aNL _ _ _ c0 c1 t0 t1))))
 refine wpQuiet_nil ?_
 intro _ hw'
 obtain ⟨⟨dq, osq⟩, hw''⟩ := hw'
 subst hw''
 go_wp2_with fail
 all_goals
  go_ret
  refine ⟨cU ?_, trG (aE (aE (aH w) _) _) _ _⟩
  unfold aBM
  rw [decide_eq_decide]
  clear hg hf
  (repeat' split) <;> omega
theorem tA (a : Int) (w : World) (a0 : 0 <= a) (a1 : a < 4294967296) :
 Calls prog 217 #[.int .u32 a] w fun e w' => e = .returned (.agg #[.int .u32 (a / 16777216)]) /\ Below w.heap.size w w' := by
 go_enter func217, ntmps217
 go_wp2_with fail
 refine bodyPost_ret (v := .agg #[.int .u32 (a / 16777216)]) ?_ rfl ?_
 . simp [results, results217, go_sem]
 . exact ⟨rfl, aE (aH w) _⟩
theorem aNK (b s : Int) (w : World) (b0 : 0 <= b) (b1 : b < 4294967296) (s0 : 0 <= s) (s1 : s < 4294967296) (h1 : (b % 4 != 0) = false) (h2 : (s % 4 != 0) = false) (h3 : (s == 0) = false) (h4 : b + s <= 4294967296) :
 Calls prog 180 #[.agg #[.int .u32 b, .int .u32 s]] w fun e w' => e = .returned (.int .i64 0) /\ Below w.heap.size w w' := by
 go_enter func180, ntmps180
 go_wp2_with (go_at_call 213; refine (aNL _ _ _ b0 b1 s0 s1).mono ?_; rintro e w1 ⟨rfl, hb1⟩)
 go_ret
 exact ⟨rfl, tr (aE (aH w) _) hb1⟩
theorem aNM (a : Int) (w : World) :
 Calls prog 233 #[.int .u32 a] w fun e w' => e = .returned (.bool false) /\ w = w' := by
 go_enter func233, ntmps233
 exact nT
def sR (a b : Int) : Int := if a < b then -1 else if b < a then 1 else 0
theorem rJ {P : Prop} (h : P := by
 go_enter func220, ntmps220
 go_wp2_with (go_at_call 233; refine (aNM _ _).mono ?_; rintro e w1 ⟨rfl, rfl⟩)
 go_ret
 exact ⟨bJ hx.out.symm, rfl⟩
 ) : P := h
theorem aH4 (a b : Int) (w : World) :
 Calls prog 220 #[.int .u32 a, .int .u32 b] w fun e w' => e = .returned (.int .i64 (sR a b)) /\ w = w' := by
 by_cases h1 : a < b
 . have hx := Hd (show sR a b = -1 by unfold sR; rw [if_pos h1])
   exact rJ
 . by_cases h2 : b < a
   . have hx := Hd (show sR a b = 1 by unfold sR; rw [if_neg h1, if_pos h2])
     exact rJ
   . have hx := Hd (show sR a b = 0 by unfold sR; rw [if_neg h1, if_neg h2])
     exact rJ
end Go.Proofs.YtaohacadochldaaGreat.B
