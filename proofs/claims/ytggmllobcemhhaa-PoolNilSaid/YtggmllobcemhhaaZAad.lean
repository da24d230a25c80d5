/- Several texts in one: Layer 16's laws: what package pool answers, as its contracts (over whatever a pool is made of); what a law's loop holds. .. -/
import Derived.Test.YtggmllobcemhhaaZAac
import Derived.Test.YtggmllobcemhhaaZAO
import Derived.Maps.AppendAt
import Derived.BigQuiet
import Derived.Deep.QuietTactic
import Derived.Deep.Cut
namespace Go.Proofs.Ytggmllobcemhhaa.B
set_option linter.unusedVariables false
set_option linter.unusedSimpArgs false
set_option maxRecDepth 100000
open Go.ChangeShapes Go.WideShapes Go.RowKit Go.Sort
structure PoolR where
 At : World → Nat → (Nat → Prop) → Nat → (Nat → Po) → Prop
 keep : ∀ {w w' : World} {p : Nat} {S : Nat → Prop} {n : Nat} {t : Nat → Po}, At w p S n t → w.heap.size ≤ w'.heap.size → (∀ k, S k → w'.heap[k]? = w.heap[k]?) → At w' p S n t
 lt : ∀ {w : World} {p : Nat} {S : Nat → Prop} {n : Nat} {t : Nat → Po}, At w p S n t → ∀ k, S k → k < w.heap.size
 congr : ∀ {w : World} {p : Nat} {S : Nat → Prop} {n : Nat} {t s : Nat → Po}, At w p S n t → (∀ i, i < n → t i = s i) → At w p S n s
def VLeft (R : PoolR) (w : World) (p : Nat) (S : Nat → Prop) (n : Nat) (t : Nat → Po) (w' : World) : Prop := ∃ S' : Nat → Prop, R.At w' p S' n t ∧ (∀ k, S' k → S k ∨ w.heap.size ≤ k) ∧ Off S w w'
structure VIn (R : PoolR) (w : World) (p : Nat) (S : Nat → Prop) (n : Nat) (t : Nat → Po) : Prop where
 at_ : R.At w p S n t
 n0 : 1 ≤ n
 n1 : n ≤ 4096
 ok : ∀ i, i < n → (t i).ok 1099511627000
def hdlI (n : Nat) (t : Nat → Po) (a : Int) : Int := if 0 ≤ a ∧ a < n ∧ (t a.toNat).tk = true then hd (t a.toNat) a.toNat else 0
def i64v (a : Int) : Prop := -9223372036854775808 ≤ a ∧ a < 9223372036854775808
structure PoolC (R : PoolR) : Prop where
 new : ∀ (n : Nat) (w : World), 1 ≤ n → n ≤ 4096 → Calls Try.prog 8 #[.int .i64 n] w fun e w' => ∃ (p : Nat) (S : Nat → Prop), e = .returned (.tuple #[.pointer (some ⟨p, 0, none⟩), .int .i64 0]) ∧ R.At w' p S n (fun _ => pz) ∧ (∀ k, S k → w.heap.size ≤ k) ∧ Below w.heap.size w w'
 newNo : ∀ (a : Int) (w : World), i64v a → ¬ (1 ≤ a ∧ a ≤ 4096) → Calls Try.prog 8 #[.int .i64 a] w fun e w' => e = .returned (.tuple #[.pointer none, .int .i64 5]) ∧ Below w.heap.size w w'
 put : ∀ (w : World) p S n t (i : Nat) d q o, VIn R w p S n t → u64r d → u64r q → u64r o → i < n → (t i).tk = false → (∀ j, j < i → (t j).tk = true) → Calls Try.prog 13 #[.pointer (some ⟨p, 0, none⟩), .agg (e3 d q o).toArray] w fun e w' => e = .returned (.tuple #[.int .u64 (hd (t i) i), .int .i64 0]) ∧ VLeft R w p S n (pupd t i ((t i).put d q o)) w'
 putNo : ∀ (w : World) p S n t d q o, VIn R w p S n t → u64r d → u64r q → u64r o → (∀ j, j < n → (t j).tk = true) → Calls Try.prog 13 #[.pointer (some ⟨p, 0, none⟩), .agg (e3 d q o).toArray] w fun e w' => e = .returned (.tuple #[.int .u64 0, .int .i64 8]) ∧ VLeft R w p S n t w'
 get : ∀ (w : World) p S n t x, VIn R w p S n t → u64r x → Calls Try.prog 18 #[.pointer (some ⟨p, 0, none⟩), .int .u64 x] w fun e w' => e = .returned (match fnd n t x with | some i => .tuple #[.agg (e3 (t i).d (t i).p (t i).o).toArray, .bool true] | none => .tuple #[.agg (e3 0 0 0).toArray, .bool false]) ∧ VLeft R w p S n t w'
 set : ∀ (w : World) p S n t x d q o, VIn R w p S n t → u64r x → u64r d → u64r q → u64r o → Calls Try.prog 17 #[.pointer (some ⟨p, 0, none⟩), .int .u64 x, .agg (e3 d q o).toArray] w fun e w' => e = .returned (.bool (fnd n t x).isSome) ∧ VLeft R w p S n (setT n t x d q o) w'
 drop : ∀ (w : World) p S n t x, VIn R w p S n t → u64r x → Calls Try.prog 15 #[.pointer (some ⟨p, 0, none⟩), .int .u64 x] w fun e w' => e = .returned (.bool (fnd n t x).isSome) ∧ VLeft R w p S n (dropT n t x) w'
 clear : ∀ (w : World) p S n t, VIn R w p S n t → Calls Try.prog 21 #[.pointer (some ⟨p, 0, none⟩)] w fun e w' => e = .returned (.int .i64 (hdsB t n).length) ∧ VLeft R w p S n (clearT t) w'
 place : ∀ (w : World) p S n t x, VIn R w p S n t → u64r x → Calls Try.prog 19 #[.pointer (some ⟨p, 0, none⟩), .int .u64 x] w fun e w' => e = .returned (.int .i64 (fndI n t x)) ∧ VLeft R w p S n t w'
 handle : ∀ (w : World) p S n t a, VIn R w p S n t → i64v a → Calls Try.prog 25 #[.pointer (some ⟨p, 0, none⟩), .int .i64 a] w fun e w' => e = .returned (.int .u64 (hdlI n t a)) ∧ VLeft R w p S n t w'
 handles : ∀ (w : World) p S n t, VIn R w p S n t → Calls Try.prog 28 #[.pointer (some ⟨p, 0, none⟩)] w fun e w' => ∃ v, e = .returned v ∧ RdU w' v (hdsB t n) ∧ VLeft R w p S n t w'
 live : ∀ (w : World) p S n t, VIn R w p S n t → Calls Try.prog 26 #[.pointer (some ⟨p, 0, none⟩)] w fun e w' => e = .returned (.int .i64 (hdsB t n).length) ∧ VLeft R w p S n t w'
 room : ∀ (w : World) p S n t, VIn R w p S n t → Calls Try.prog 29 #[.pointer (some ⟨p, 0, none⟩)] w fun e w' => e = .returned (.int .i64 n) ∧ VLeft R w p S n t w'
 copy : ∀ (w : World) p S n t, VIn R w p S n t → Calls Try.prog 22 #[.pointer (some ⟨p, 0, none⟩)] w fun e w' => ∃ (p2 : Nat) (S2 S' : Nat → Prop), e = .returned (.pointer (some ⟨p2, 0, none⟩)) ∧ R.At w' p2 S2 n t ∧ (∀ k, S2 k → w.heap.size ≤ k ∧ ¬ S' k) ∧ R.At w' p S' n t ∧ (∀ k, S' k → S k ∨ w.heap.size ≤ k) ∧ Off S w w'
 split : ∀ (x : Int) (w : World), u64r x → Calls Try.prog 27 #[.int .u64 x] w fun e w' => e = .returned (.tuple #[.int .u64 (x / 4096), .int .i64 (x % 4096)]) ∧ Below w.heap.size w w'
 nPut : ∀ (w : World) d q o, u64r d → u64r q → u64r o → Calls Try.prog 13 #[.pointer none, .agg (e3 d q o).toArray] w fun e w' => e = .returned (.tuple #[.int .u64 0, .int .i64 1]) ∧ Below w.heap.size w w'
 nGet : ∀ (w : World) x, u64r x → Calls Try.prog 18 #[.pointer none, .int .u64 x] w fun e w' => e = .returned (.tuple #[.agg (e3 0 0 0).toArray, .bool false]) ∧ Below w.heap.size w w'
 nSet : ∀ (w : World) x d q o, u64r x → u64r d → u64r q → u64r o → Calls Try.prog 17 #[.pointer none, .int .u64 x, .agg (e3 d q o).toArray] w fun e w' => e = .returned (.bool false) ∧ Below w.heap.size w w'
 nDrop : ∀ (w : World) x, u64r x → Calls Try.prog 15 #[.pointer none, .int .u64 x] w fun e w' => e = .returned (.bool false) ∧ Below w.heap.size w w'
 nClear : ∀ (w : World), Calls Try.prog 21 #[.pointer none] w fun e w' => e = .returned (.int .i64 0) ∧ Below w.heap.size w w'
 nPlace : ∀ (w : World) x, u64r x → Calls Try.prog 19 #[.pointer none, .int .u64 x] w fun e w' => e = .returned (.int .i64 (-1)) ∧ Below w.heap.size w w'
 nHandle : ∀ (w : World) a, i64v a → Calls Try.prog 25 #[.pointer none, .int .i64 a] w fun e w' => e = .returned (.int .u64 0) ∧ Below w.heap.size w w'
 nHandles : ∀ (w : World), Calls Try.prog 28 #[.pointer none] w fun e w' => ∃ y c, e = .returned (.slice y 0 c) ∧ Below w.heap.size w w'
 nLive : ∀ (w : World), Calls Try.prog 26 #[.pointer none] w fun e w' => e = .returned (.int .i64 0) ∧ Below w.heap.size w w'
 nRoom : ∀ (w : World), Calls Try.prog 29 #[.pointer none] w fun e w' => e = .returned (.int .i64 0) ∧ Below w.heap.size w w'
 nCopy : ∀ (w : World), Calls Try.prog 22 #[.pointer none] w fun e w' => e = .returned (.pointer none) ∧ Below w.heap.size w w'
section
variable {R : PoolR} {w0 w w' : World} {p : Nat} {S : Nat → Prop} {n : Nat} {t s : Nat → Po}
theorem PoolR.below (R : PoolR) (h : R.At w p S n t) (hb : Below w.heap.size w w') : R.At w' p S n t := R.keep h hb.size fun k hk => hb.block k (R.lt h k hk)
theorem PoolR.off (R : PoolR) {T : Nat → Prop} (h : R.At w p S n t) (ho : Off T w w') (hT : ∀ k, S k → ¬ T k) : R.At w' p S n t := R.keep h ho.size fun k hk => ho.block k (R.lt h k hk) (hT k hk)
theorem VLeft.trans {w2 : World} {S1 : Nat → Prop} (h1 : ∀ k, S1 k → S k ∨ w.heap.size ≤ k) (ho : Off S w w') (h : VLeft R w' p S1 n t w2) : VLeft R w p S n t w2 := by
 obtain ⟨S2, h2, h3, h4⟩ := h
 refine ⟨S2, h2, fun k hk => ?_, ⟨h4.os.trans ho.os, h4.tape.trans ho.tape, h4.output.trans ho.output, Nat.le_trans ho.size h4.size, fun k hk hs => ?_⟩⟩
 · rcases h3 k hk with h | h
   · exact h1 k h
   · exact .inr (Nat.le_trans ho.size h)
 · rw [h4.block k (Nat.lt_of_lt_of_le hk ho.size) fun h => ?_, ho.block k hk hs]
   rcases h1 k h with h | h
   · exact hs h
   · omega
theorem VLeft.refl (h : R.At w p S n t) : VLeft R w p S n t w := ⟨S, h, fun k hk => .inl hk, Off.refl _ _⟩
end
structure KS (R : PoolR) (w0 w : World) (p : Nat) (S : Nat → Prop) (n : Nat) (t : Nat → Po) : Prop where
 P : R.At w p S n t
 own : ∀ k, S k → w0.heap.size ≤ k
 lo : Below w0.heap.size w0 w
section
variable {R : PoolR} {w0 w w' : World} {p : Nat} {S : Nat → Prop} {n : Nat} {t s : Nat → Po}
theorem KS.below (A : KS R w0 w p S n t) (hb : Below w.heap.size w w') : KS R w0 w' p S n t := ⟨R.below A.P hb, A.own, tr A.lo hb⟩
theorem KS.left (A : KS R w0 w p S n t) (L : VLeft R w p S n s w') : ∃ S' : Nat → Prop, KS R w0 w' p S' n s ∧ (∀ k, S' k → S k ∨ w.heap.size ≤ k) ∧ Off S w w' := by
 obtain ⟨S', h1, h2, h3⟩ := L
 refine ⟨S', ⟨h1, fun k hk => ?_, Off.toBelow A.lo h3 (fun j hj e => by have := A.own j e; omega) (Nat.le_refl _)⟩, h2, h3⟩
 rcases h2 k hk with h | h
 · exact A.own k h
 · exact Nat.le_trans A.lo.size h
theorem KS.vin (A : KS R w0 w p S n t) (n0 : 1 ≤ n) (n1 : n ≤ 4096) {b : Nat} (ok : ∀ i, i < n → (t i).ok b) (hb : b ≤ 1099511627000) : VIn R w p S n t := ⟨A.P, n0, n1, fun i hi => (ok i hi).more hb⟩
end
set_option maxHeartbeats 1600000 in
theorem poSame {w : World} {va vb : Value} {L : List Int} (ha : RdU w va L) (hb : RdU w vb L) : Calls Try.prog 37 #[va, vb] w fun e w' => e = .returned (.bool true) ∧ Below w.heap.size w w' := by
 obtain ⟨ya, ca, rfl, fa⟩ := ha
 obtain ⟨yb, cb, rfl, fb⟩ := hb
 have HFA := Lib.hid fa
 have HFB := Lib.hid fb
 clear fa fb
 obtain ⟨len, hlen⟩ : ∃ len, L.length = len := ⟨_, rfl⟩
 have HL := Lib.hid hlen
 rw [hlen]
 clear hlen
 go_enter Try.func37, Try.ntmps37
 go_wp2_with fail
 go_loopw [5] (fun x wr => ∃ (k : Nat), k ≤ len ∧ x = .int .i64 k ∧ Hid (Below w.heap.size w wr)) (fun x wr => len - (intOf x).toNat)
 case atStart => exact ⟨0, by omega, rfl, Lib.hid (tr0 w)⟩
 case round =>
  obtain ⟨k, hk, rfl, HB⟩ := hrel
  rename_i wr
  by_cases hlt : k < len
  · have hkL : k < L.length := by rw [HL.out]; exact hlt
    have hne : ¬ L = [] := fun e => by rw [e] at hkL; exact absurd hkL (by simp)
    obtain ⟨ga, oa, hya, a1, a2, a3, a4⟩ := HFA.out.resolve_left hne
    obtain ⟨gb, ob, hyb, b1, b2, b3, b4⟩ := HFB.out.resolve_left hne
    have c1 := (HB.out.cell (p := ⟨ga, oa + k, none⟩) a3).trans (a4 k _ (List.getElem?_eq_getElem hkL))
    have c2 := (HB.out.cell (p := ⟨gb, ob + k, none⟩) b3).trans (b4 k _ (List.getElem?_eq_getElem hkL))
    have l1 := Nat.lt_of_lt_of_le a3 HB.out.size
    have l2 := Nat.lt_of_lt_of_le b3 HB.out.size
    rw [HL.out] at a1 b1
    unfold maxLen at a2 b2
    clear a4 b4 a3 b3
    generalize L[k] = x at *
    subst hya hyb
    have e : decide ((k : Int) < (len : Int)) = true := decide_eq_true (by omega)
    have k0 : 0 ≤ (k : Int) := by omega
    have k1 : (k : Int) < (len : Int) := by omega
    clear hne hkL
    go_upto_region 6 with (fail)
    go_quiet (fail)
    have HB := Lib.hid (trN HB.out nq)
    generalize wr.drewN nq = W3 at *
    clear c1 c2 l1 l2
    go_wp2_with fail
    go_roundw
    case rel => exact ⟨k + 1, by omega, by go_num, HB⟩
    case measure => simp [intOf]; omega
  · obtain rfl : k = len := by omega
    go_wp2_with fail
    go_ret
    exact ⟨rfl, HB.out⟩
theorem zeros3 : (#[.int .u64 0, .int .u64 0, .int .u64 0] : Array Value) = (e3 0 0 0).toArray := rfl
theorem u0 : u64r 0 := ⟨by decide, by decide⟩
def kt0 : Nat → Po := fun _ => pz
def kt1 : Nat → Po := pupd kt0 0 ((kt0 0).put 0 0 0)
def kt2 : Nat → Po := pupd kt1 1 ((kt1 1).put 0 0 0)
def kt3 : Nat → Po := dropT 2 kt2 4096
def kt4 : Nat → Po := pupd kt3 0 ((kt3 0).put 0 0 0)
theorem kt_ok : (∀ i, i < 2 → (kt0 i).ok 2) ∧ (∀ i, i < 2 → (kt1 i).ok 2) ∧ (∀ i, i < 2 → (kt2 i).ok 2) ∧ (∀ i, i < 2 → (kt3 i).ok 2) ∧ ∀ i, i < 2 → (kt4 i).ok 2 := by
 have key : ∀ t : Nat → Po, (t 0).ok 2 → (t 1).ok 2 → ∀ i, i < 2 → (t i).ok 2 := fun t h0 h1 i hi => by
  have : i = 0 ∨ i = 1 := by omega
  rcases this with rfl | rfl
  · exact h0
  · exact h1
 have ok : ∀ g tk, 1 ≤ g → g ≤ 2 → (Po.mk g tk 0 0 0).ok 2 := fun g tk h1 h2 => ⟨h1, h2, u0, u0, u0⟩
 exact ⟨key _ (ok 1 _ (by decide) (by decide)) (ok 1 _ (by decide) (by decide)), key _ (ok 1 _ (by decide) (by decide)) (ok 1 _ (by decide) (by decide)), key _ (ok 1 _ (by decide) (by decide)) (ok 1 _ (by decide) (by decide)), key _ (ok 2 _ (by decide) (by decide)) (ok 1 _ (by decide) (by decide)), key _ (ok 2 _ (by decide) (by decide)) (ok 1 _ (by decide) (by decide))⟩
theorem two_case {t : Nat → Po} {P : Po → Prop} (h0 : P (t 0)) (h1 : P (t 1)) : ∀ j, j < 2 → P (t j) := fun j hj => by
 have : j = 0 ∨ j = 1 := by omega
 rcases this with rfl | rfl
 · exact h0
 · exact h1
theorem kt1_low : ∀ j, j < 1 → (kt1 j).tk = true := fun j hj => by
 obtain rfl : j = 0 := by omega
 rfl
set_option maxHeartbeats 3200000 in
theorem poKnown {R : PoolR} (C : PoolC R) (w : World) : Calls Try.prog 9 #[] w fun e w' => e = .returned (.bool true) ∧ Below w.heap.size w w' := by
 obtain ⟨o0, o1, o2, o3, o4⟩ := kt_ok
 have K0 := Lib.hid o0
 have K1 := Lib.hid o1
 have K2 := Lib.hid o2
 have K3 := Lib.hid o3
 have K4 := Lib.hid o4
 clear o0 o1 o2 o3 o4
 have HC := Lib.hid C
 have CN := Lib.hid (fun w' => show Calls _ _ _ w' _ from C.new 2 w' (by decide) (by decide))
 clear C
 go_enter Try.func9, Try.ntmps9
 go_wp2_with (go_at_call 8; refine (CN.out _).mono ?_; rintro e w1 ⟨p, S0, rfl, h1, h2, h3⟩; have KA := Lib.hid (show KS R w w1 p S0 2 kt0 from ⟨h1, h2, h3⟩); clear h1 h2 h3)
 refine (HC.out.put w1 p S0 2 kt0 0 0 0 0 (KA.out.vin (by decide) (by decide) K0.out (by decide)) u0 u0 u0 (by decide) rfl (fun j hj => by omega)).mono ?_
 rintro e w2 ⟨rfl, hv⟩
 obtain ⟨S1, KB, _, _⟩ := KA.out.left hv
 have KB := Lib.hid (show KS R w w2 p S1 2 kt1 from KB)
 clear hv KA
 rw [show hd (kt0 0) 0 = 4096 from rfl]
 go_wp2_with fail
 refine (HC.out.put w2 p S1 2 kt1 1 0 0 0 (KB.out.vin (by decide) (by decide) K1.out (by decide)) u0 u0 u0 (by decide) rfl kt1_low).mono ?_
 rintro e w3 ⟨rfl, hv⟩
 obtain ⟨S2, KC, _, _⟩ := KB.out.left hv
 have KC := Lib.hid (show KS R w w3 p S2 2 kt2 from KC)
 clear hv KB
 rw [show hd (kt1 1) 1 = 4097 from rfl]
 go_wp2_with fail
 refine (HC.out.putNo w3 p S2 2 kt2 0 0 0 (KC.out.vin (by decide) (by decide) K2.out (by decide)) u0 u0 u0 (two_case (P := fun c => c.tk = true) rfl rfl)).mono ?_
 rintro e w4 ⟨rfl, hv⟩
 obtain ⟨S3, KD, _, _⟩ := KC.out.left hv
 have KD := Lib.hid KD
 clear hv KC
 go_wp2_with fail
 refine (HC.out.drop w4 p S3 2 kt2 4096 (KD.out.vin (by decide) (by decide) K2.out (by decide)) ⟨by decide, by decide⟩).mono ?_
 rintro e w5 ⟨rfl, hv⟩
 obtain ⟨S4, KE, _, _⟩ := KD.out.left hv
 have KE := Lib.hid (show KS R w w5 p S4 2 kt3 from KE)
 clear hv KD
 rw [show (fnd 2 kt2 4096).isSome = true from rfl]
 go_wp2_with fail
 refine (HC.out.put w5 p S4 2 kt3 0 0 0 0 (KE.out.vin (by decide) (by decide) K3.out (by decide)) u0 u0 u0 (by decide) rfl (fun j hj => by omega)).mono ?_
 rintro e w6 ⟨rfl, hv⟩
 obtain ⟨S5, KF, _, _⟩ := KE.out.left hv
 have KF := Lib.hid (show KS R w w6 p S5 2 kt4 from KF)
 clear hv KE
 rw [show hd (kt3 0) 0 = 8192 from rfl]
 go_wp2_with fail
 refine (HC.out.get w6 p S5 2 kt4 4096 (KF.out.vin (by decide) (by decide) K4.out (by decide)) ⟨by decide, by decide⟩).mono ?_
 rintro e w7 ⟨he, hv⟩
 rw [show fnd 2 kt4 4096 = none from rfl] at he
 subst he
 obtain ⟨S6, KG, _, _⟩ := KF.out.left hv
 have KG := Lib.hid KG
 clear hv KF
 dsimp only
 go_wp2_with (rw [zeros3]; refine stEn rfl (.tmp 11) (.tmp 65) rfl rfl rfl (show EnAt tEn (w7.alloc (oEn tEn 0 0 0)) w7.heap.size 0 0 0 from blk_new w7 _) ?_; intro w8 h8 ho; have HB := Lib.hid (Off.toBelow (trA KG.out.lo (oEn tEn 0 0 0)) ho (fun j hj e => by have := KG.out.lo.size; omega) (Nat.le_refl _)); clear h8 ho)
 go_ret
 exact ⟨rfl, HB.out⟩
set_option maxHeartbeats 3200000 in
theorem poNil {R : PoolR} (C : PoolC R) (x a : Int) (w : World) (hx : u64r x) (ha : i64v a) : Calls Try.prog 6 #[.int .u64 x, .int .i64 a] w fun e w' => e = .returned (.bool true) ∧ Below w.heap.size w w' := by
 have HK := Lib.hid (fun w' => poKnown C w')
 have HP := Lib.hid (fun w' => C.nPut w' 0 0 0 u0 u0 u0)
 have HG := Lib.hid (fun w' => C.nGet w' x hx)
 have HS := Lib.hid (fun w' => C.nSet w' x 0 0 0 hx u0 u0 u0)
 have HD := Lib.hid (fun w' => C.nDrop w' x hx)
 have HC := Lib.hid (fun w' => C.nClear w')
 have HL := Lib.hid (fun w' => C.nPlace w' x hx)
 have HH := Lib.hid (fun w' => C.nHandle w' a ha)
 have HHs := Lib.hid (fun w' => C.nHandles w')
 have HLi := Lib.hid (fun w' => C.nLive w')
 have HR := Lib.hid (fun w' => C.nRoom w')
 have HCo := Lib.hid (fun w' => C.nCopy w')
 clear C hx ha
 have HB := Lib.hid (tr0 w)
 go_enter Try.func6, Try.ntmps6
 go_wp2_with (first
  | (go_at_call 13; refine (HP.out _).mono ?_; rintro e w1 ⟨rfl, hb⟩; have HB := Lib.hid (tr HB.out hb); clear hb)
  | (go_at_call 18; refine (HG.out _).mono ?_; rintro e w2 ⟨rfl, hb⟩; have HB := Lib.hid (tr HB.out hb); clear hb)
  | (rw [zeros3]; refine stEn rfl (.tmp 8) (.tmp 20) rfl rfl rfl (show EnAt tEn (w2.alloc (oEn tEn 0 0 0)) w2.heap.size 0 0 0 from blk_new w2 _) ?_; intro w3 h3 ho; have HE := Lib.hid h3; have HB := Lib.hid (Off.toBelow (trA HB.out (oEn tEn 0 0 0)) ho (fun j hj e => by have := HB.out.size; omega) (Nat.le_refl _)); clear h3 ho))
 generalize w2.heap.size = be at *
 go_wp2_with (first
  | (go_at_call 9; refine (HK.out _).mono ?_; rintro e w4 ⟨rfl, hb⟩; have HB := Lib.hid (tr HB.out hb); have HE := Lib.hid (HE.out.below hb); have c0 := HE.out.c0; have c1 := HE.out.c1; have c2 := HE.out.c2; clear hb)
  | (go_at_call 17; refine (HS.out _).mono ?_; rintro e w5 ⟨rfl, hb⟩; have HB := Lib.hid (tr HB.out hb); clear hb c0 c1 c2)
  | (go_at_call 15; refine (HD.out _).mono ?_; rintro e w6 ⟨rfl, hb⟩; have HB := Lib.hid (tr HB.out hb); clear hb)
  | (go_at_call 21; refine (HC.out _).mono ?_; rintro e w7 ⟨rfl, hb⟩; have HB := Lib.hid (tr HB.out hb); clear hb)
  | (go_at_call 19; refine (HL.out _).mono ?_; rintro e w8 ⟨rfl, hb⟩; have HB := Lib.hid (tr HB.out hb); clear hb)
  | (go_at_call 25; refine (HH.out _).mono ?_; rintro e w9 ⟨rfl, hb⟩; have HB := Lib.hid (tr HB.out hb); clear hb)
  | (go_at_call 28; refine (HHs.out _).mono ?_; rintro e w10 ⟨y, c, rfl, hb⟩; have HB := Lib.hid (tr HB.out hb); clear hb)
  | (go_at_call 26; refine (HLi.out _).mono ?_; rintro e w11 ⟨rfl, hb⟩; have HB := Lib.hid (tr HB.out hb); clear hb)
  | (go_at_call 29; refine (HR.out _).mono ?_; rintro e w12 ⟨rfl, hb⟩; have HB := Lib.hid (tr HB.out hb); clear hb)
  | (go_at_call 22; refine (HCo.out _).mono ?_; rintro e w13 ⟨rfl, hb⟩; have HB := Lib.hid (tr HB.out hb); clear hb))
 go_ret
 exact ⟨rfl, HB.out⟩
end Go.Proofs.Ytggmllobcemhhaa.B
