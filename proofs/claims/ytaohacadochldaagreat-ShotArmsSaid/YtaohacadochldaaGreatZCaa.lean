/- A part of the proof of a law of layer 12: aa. -/
import Derived.Laws.BitsAllLaws
import Derived.RowKit
import Derived.Laws.BitsLemmas
import Derived.IntWalk
import Derived.Test.YtaohacadochldaaGreatRows
import Derived.WalkKit
import Derived.WalkLawsBesides
import Derived.Lib.Hide
import Derived.Lib.QuietBelow
import Derived.Laws.ResultCell
import Derived.Deep.QuietTactic
import Derived.BigQuiet
import Derived.Maps.Own
import Derived.Maps.OwnOps
import Derived.WideKeyEntry
import Derived.DeepKeys4
set_option linter.unusedVariables false
set_option linter.unusedSimpArgs false
set_option maxHeartbeats 12800000
set_option maxRecDepth 100000
namespace Go.Proofs.YtaohacadochldaaGreat.B
open Go.Proofs.Tryz
open Go.ChangeShapes Go.WideShapes Go.RowKit Go.Sort Go.MapKept
def lo (a : Int) : Int := a % 4294967296
def hi (a : Int) : Int := a / 4294967296
def cZ (h l : Int) : Int := h * 4294967296 + l
def eF (a b : Int) : Int := if 18446744073709551615 - b < a then 18446744073709551615 else a + b
def mask (n : Int) : Int := if n < 0 then 0 else if 64 <= n then 18446744073709551615 else 2 ^ n.toNat - 1
def aO (n : Int) (i : Nat) : Bool := decide (n / 2 ^ i % 2 = 1)
def aFx (n f : Int) : Nat -> Nat -> Int
 | 0, _ => -1
 | k + 1, i => if f <= (i : Int) /\ aO n i = true then i else aFx n f k (i + 1)
def first (n f : Int) : Int := aFx n f 64 0
def inw (low width : Int) : Bool := decide (0 <= low /\ low < 32 /\ 1 <= width)
def field (n low width : Int) : Int := if inw low width = true then ((n.toNat / 2 ^ low.toNat % 2 ^ (min width.toNat 32) : Nat) : Int) else 0
def fK (f : Nat -> Bool) : Nat -> Nat
 | 0 => 0
 | k + 1 => fK f k + if f k = true then 2 ^ k else 0
def kH (n low width v : Int) (i : Nat) : Bool :=
 if low.toNat <= i /\ i - low.toNat < width.toNat then v.toNat.testBit (i - low.toNat) else n.toNat.testBit i
def put (n low width v : Int) : Int := if inw low width = true then ((fK (kH n low width v) 32 : Nat) : Int) else n
theorem dQ (a : Int) : 0 <= lo a := by unfold lo; omega
theorem mF (a : Int) : lo a < 4294967296 := by unfold lo; omega
theorem kA {a : Int} (h : 0 <= a) : 0 <= hi a := by unfold hi; omega
theorem yC {a : Int} (h : a < 18446744073709551616) : hi a < 4294967296 := by unfold hi; omega
theorem aCa (a : Int) : cZ (hi a) (lo a) = a := by unfold cZ hi lo; omega
theorem sL (n : Int) : 0 <= mask n := by
 unfold mask; split; . omega
 split; . omega
 have : (0 : Int) < 2 ^ n.toNat := Int.pow_pos (by decide); omega
theorem vH {i j : Nat} (h : i <= j) : (2 : Int) ^ i <= 2 ^ j := by
 have := Nat.pow_le_pow_right (n := 2) (by decide) h
 exact_mod_cast this
theorem aDk (n : Int) : mask n <= 18446744073709551615 := by
 unfold mask; split; . omega
 split; . omega
 have h := vH (show n.toNat <= 63 by omega); have : (2 : Int) ^ 63 = 9223372036854775808 := by decide
 omega
theorem aIu (h l : Int) (h0 : 0 <= h) (h1 : h < 4294967296) (l0 : 0 <= l) (l1 : l < 4294967296) : bits BinOp.or IntKind.u64 (h * 4294967296) l = cZ h l := by
 rw [u64_or _ _ (by omega) (by omega) (by omega) (by omega), nat_join 32 _ _ (by omega) (by omega)]; unfold cZ; omega
theorem aE3 (n : Int) (h0 : 0 <= n) (h1 : n <= 64) : IntKind.u64.wrap (IntKind.u64.wrap (2 ^ n.toNat) - 1) = mask n := by
 by_cases e : n = 64
 . subst e; decide
 have h := vH (show n.toNat <= 63 by omega)
 have e : (2 : Int) ^ 63 = 9223372036854775808 := by decide
 have p : (0 : Int) < 2 ^ n.toNat := Int.pow_pos (by decide)
 unfold mask; rw [if_neg (by omega), if_neg (by omega), IntKind.wrap_u64, IntKind.wrap_u64]
 omega
theorem vW (n : Int) (h0 : 64 <= n) : IntKind.u64.wrap (IntKind.u64.wrap 18446744073709551616 - 1) = mask n := by
 unfold mask; rw [if_neg (by omega), if_pos h0, IntKind.wrap_u64, IntKind.wrap_u64]; decide
theorem mU (n : Int) (i : Nat) (h0 : 0 <= n) : 0 <= n / 2 ^ i := Int.ediv_nonneg h0 (Int.le_of_lt (Int.pow_pos (by decide)))
theorem jR (k : Nat) : ((2 ^ k : Nat) : Int) = 2 ^ k := by push_cast; rfl
theorem aDY {low width : Int} (h : inw low width = true) : 0 <= low /\ low < 32 /\ 1 <= width := by unfold inw at h; simpa using h
theorem aDf (width : Int) (h : 1 <= width) : lo (mask width) = ((2 ^ min width.toNat 32 - 1 : Nat) : Int) := by
 have e32 : (2 : Nat) ^ 32 = 4294967296 := by decide
 unfold lo mask
 rw [if_neg (by omega)]
 split
 . rw [Nat.min_eq_right (by omega), e32]; rfl
 . by_cases c : width.toNat <= 32
   . rw [Nat.min_eq_left c]
     have := Nat.pow_le_pow_right (n := 2) (by decide) c
     have := jR width.toNat; have := Nat.two_pow_pos width.toNat
     omega
   . rw [Nat.min_eq_right (by omega), e32]
     obtain ⟨d, hd⟩ : ∃ d, width.toNat = 32 + d := ⟨width.toNat - 32, by omega⟩
     rw [hd, Int.pow_add, show (2 : Int) ^ 32 = 4294967296 from by decide]
     have : (0 : Int) < 2 ^ d := Int.pow_pos (by decide)
     generalize (2 : Int) ^ d = q at *
     omega
theorem vS (n : Int) (j : Nat) (h0 : 0 <= n) : (n / 2 ^ j).toNat = n.toNat / 2 ^ j := by
 obtain ⟨m, rfl⟩ := Int.eq_ofNat_of_zero_le h0
 have : ((m : Int) / 2 ^ j) = ((m / 2 ^ j : Nat) : Int) := by push_cast; rfl
 rw [this, Int.toNat_natCast, Int.toNat_natCast]
theorem aCX (n low width : Int) (h0 : 0 <= n) (h1 : n < 4294967296) (hb : inw low width = true) : bits BinOp.and IntKind.u32 (n / 2 ^ low.toNat) (lo (mask width)) = field n low width := by
 have hw := (aDY hb).2.2
 have d0 := mU n low.toNat h0
 have d1 : n / 2 ^ low.toNat <= n := Int.ediv_le_self _ h0
 rw [u32_and _ _ d0 (by omega) (dQ _) (mF _)]
 unfold field
 rw [if_pos hb, aDf width hw, Int.toNat_natCast, Nat.and_two_pow_sub_one_eq_mod, vS n _ h0]
theorem lE (f : Nat -> Bool) (n : Nat) : fK f n < 2 ^ n := by
 induction n with
 | zero => simp [fK]
 | succ n ih => rw [fK, Nat.pow_succ]; split <;> omega
theorem iL (f : Nat -> Bool) (n i : Nat) : (fK f n).testBit i = (decide (i < n) && f i) := by
 induction n with
 | zero => simp [fK]
 | succ n ih =>
   rw [fK]
   by_cases hf : f n = true
   . rw [if_pos hf, Nat.add_comm]
     by_cases e : i = n
     . subst e
       rw [Nat.testBit_two_pow_add_eq, ih]; simp [hf]
     . by_cases hlt : i < n
       . rw [Nat.testBit_two_pow_add_gt hlt, ih]; simp [hlt, Nat.lt_succ_of_lt hlt]
       . have : (2 ^ n + fK f n).testBit i = false := by
          apply Nat.testBit_lt_two_pow
          have a := lE f n
          have b : 2 ^ (n + 1) <= 2 ^ i := Nat.pow_le_pow_right (by decide) (by omega)
          rw [Nat.pow_succ] at b; omega
         rw [this]; simp; omega
   . rw [if_neg hf, Nat.add_zero, ih]
     by_cases e : i = n
     . subst e; simp [hf]
     . by_cases hlt : i < n
       . simp [hlt, Nat.lt_succ_of_lt hlt]
       . have : ¬ i < n + 1 := by omega
         simp [hlt, this]
theorem oW (v : Int) (j : Nat) (h0 : 0 <= v) : (v * 2 ^ j % 4294967296).toNat = v.toNat * 2 ^ j % 2 ^ 32 := by
 obtain ⟨m, rfl⟩ := Int.eq_ofNat_of_zero_le h0
 have : ((m : Int) * 2 ^ j % 4294967296) = ((m * 2 ^ j % 2 ^ 32 : Nat) : Int) := by
  rw [Int.natCast_emod, Int.natCast_mul, jR, jR, show (2 : Int) ^ 32 = 4294967296 from by decide]
 rw [this, Int.toNat_natCast, Int.toNat_natCast]
theorem aG8 (n low width v : Int) (h0 : 0 <= n) (h1 : n < 4294967296) (v0 : 0 <= v) (hb : inw low width = true) :
 bits BinOp.or IntKind.u32 (bits BinOp.andNot IntKind.u32 n (lo (mask width) * 2 ^ low.toNat % 4294967296)) (bits BinOp.and IntKind.u32 (v * 2 ^ low.toNat % 4294967296) (lo (mask width) * 2 ^ low.toNat % 4294967296)) = put n low width v := by
 obtain ⟨l0, l1, hw⟩ := aDY hb
 have b1 : ∀ x : Int, 0 <= x % 4294967296 /\ x % 4294967296 < 4294967296 := fun x => by omega
 rw [u32_andNot _ _ h0 h1 (b1 _).1 (b1 _).2, u32_and _ _ (b1 _).1 (b1 _).2 (b1 _).1 (b1 _).2]
 rw [oW _ _ (dQ _), oW _ _ v0, aDf width hw, Int.toNat_natCast]
 have e32 : (2 : Nat) ^ 32 = 4294967296 := by decide
 have hP : (2 ^ min width.toNat 32 - 1) * 2 ^ low.toNat % 2 ^ 32 < 2 ^ 32 := Nat.mod_lt _ (by decide)
 have ha : n.toNat &&& 4294967295 - (2 ^ min width.toNat 32 - 1) * 2 ^ low.toNat % 2 ^ 32 < 2 ^ 32 := Nat.lt_of_le_of_lt Nat.and_le_left (by omega)
 have hc : v.toNat * 2 ^ low.toNat % 2 ^ 32 &&& (2 ^ min width.toNat 32 - 1) * 2 ^ low.toNat % 2 ^ 32 < 2 ^ 32 := Nat.lt_of_le_of_lt Nat.and_le_left (Nat.mod_lt _ (by decide))
 rw [u32_or_nat _ _ (by omega) (by omega)]
 unfold put
 rw [if_pos hb]
 congr 1
 apply Nat.eq_of_testBit_eq
 intro i
 rw [iL, Nat.testBit_or, Nat.testBit_and, Nat.testBit_and,
  show 4294967295 - (2 ^ min width.toNat 32 - 1) * 2 ^ low.toNat % 2 ^ 32 = 2 ^ 32 - ((2 ^ min width.toNat 32 - 1) * 2 ^ low.toNat % 2 ^ 32 + 1) from by omega,
  Nat.testBit_two_pow_sub_succ hP, Nat.testBit_mod_two_pow, Nat.testBit_mod_two_pow, Nat.mul_comm _ (2 ^ low.toNat), Nat.mul_comm _ (2 ^ low.toNat), Nat.testBit_two_pow_mul, Nat.testBit_two_pow_mul, Nat.testBit_two_pow_sub_one]
 by_cases hi : i < 32
 . by_cases hl : low.toNat <= i
   . by_cases hw2 : i - low.toNat < width.toNat
     . have : i - low.toNat < min width.toNat 32 := by omega
       simp [kH, hi, hl, hw2, this]
     . have : ¬ i - low.toNat < min width.toNat 32 := by omega
       simp [kH, hi, hl, hw2, this]
   . simp [kH, hi, hl]
 . simp [hi]
theorem Hd {p : Prop} (h : p) : Go.RowKit.Hid p := h
abbrev aQT (P : Program) (f : FuncId) (args : Array Value) (w : World) (v : Value) : Prop := Calls P f args w fun e w' => e = .returned v /\ Below w.heap.size w w'
theorem bJ {k : IntKind} {a b : Int} (h : a = b) : Ending.returned (.int k a) = .returned (.int k b) := by rw [h]
theorem cU {a b : Bool} (h : a = b) : Ending.returned (.bool a) = .returned (.bool b) := by rw [h]
theorem zS {k : IntKind} {a b : Int} (h : a = b) : Value.int k a = Value.int k b := by rw [h]
theorem fP (x : Int) : (x == x) = true := beq_self_eq_true x
theorem tr {a b c : World} (h : Below a.heap.size a b) (k : Below b.heap.size b c) : Below a.heap.size a c := h.trans (k.mono h.size)
theorem aE {a b : World} (h : Below a.heap.size a b) (o : Obj) : Below a.heap.size a (b.alloc o) := h.alloc h.size o
theorem vG {a b : World} (h : Below a.heap.size a b) (n : Nat) : Below a.heap.size a (b.drewN n) := h.trans ⟨rfl, rfl, rfl, Nat.le_refl _, fun _ _ => rfl⟩
theorem jQ {a b : World} (h : Below a.heap.size a b) : Below a.heap.size a b.drew := h.drew
theorem aH (a : World) : Below a.heap.size a a := Below.refl _ _
theorem trG {a b : World} (h : Below a.heap.size a b) (d : Nat) (os : Array Obj) : Below a.heap.size a (grow (redrawn b d) os) := tr h (below_regrown b d os)
theorem aJ5 {W w1 : World} (hb : Below W.heap.size W w1) : (∀ b o, b < W.heap.size -> w1.cell? ⟨b, o, none⟩ = W.cell? ⟨b, o, none⟩) /\ (∀ b o, b < W.heap.size -> w1.frozen? ⟨b, o, none⟩ = W.frozen? ⟨b, o, none⟩) :=
 ⟨fun b o h => hb.cell (p := ⟨b, o, none⟩) h, fun b o h => hb.frozen (p := ⟨b, o, none⟩) h⟩
theorem bC (W : World) (d : Nat) (os : Array Obj) (b o : Nat) (h : b < W.heap.size) : (grow (redrawn W d) os).cell? ⟨b, o, none⟩ = W.cell? ⟨b, o, none⟩ := (aJ5 (below_regrown W d os)).1 b o h
theorem dE (W : World) (d : Nat) (os : Array Obj) (b o : Nat) (h : b < W.heap.size) : (grow (redrawn W d) os).frozen? ⟨b, o, none⟩ = W.frozen? ⟨b, o, none⟩ := (aJ5 (below_regrown W d os)).2 b o h
theorem aA {w : World} {b : Nat} {cs : Array Value} {t : TypeId} (h : w.heap[b]? = some (.cells cs t (0, 0))) (j : Nat) : w.cell? ⟨b, j, none⟩ = cs[j]? := by simp [World.cell?, h]
theorem aK {w : World} {b : Nat} {cs : Array Value} {t : TypeId} (h : w.heap[b]? = some (.cells cs t (0, 0))) (j : Nat) : w.frozen? ⟨b, j, none⟩ = false := by simp [World.frozen?, h]
theorem aR {w : World} {b : Nat} {cs : Array Value} {t : TypeId} (h : w.heap[b]? = some (.cells cs t (0, 0))) (j : Nat) (v : Value) : (w.setCell ⟨b, j, none⟩ v).heap[b]? = some (.cells (cs.setIfInBounds j v) t (0, 0)) :=
 heap_setCell_same w b j cs t v h
theorem gO {w : World} {b : Nat} {o : Obj} (h : w.heap[b]? = some o) : b < w.heap.size := lt_of_block h
theorem aC {B : Nat} {w w' : World} (hb : Below B w w') {b : Nat} {o : Obj} (h : w.heap[b]? = some o) (hl : b < B) : w'.heap[b]? = some o := by rw [hb.block b hl]; exact h
theorem aD (w : World) (o : Obj) : (w.alloc o).heap[w.heap.size]? = some o := by show (w.heap.push o)[w.heap.size]? = _; simp
theorem aX (w : World) (o : Obj) {b : Nat} (h : b < w.heap.size) : (w.alloc o).heap[b]? = w.heap[b]? := by show (w.heap.push o)[b]? = _; rw [Array.getElem?_push, if_neg (by omega)]
theorem bM (w : World) (a b : Obj) : ((w.alloc a).alloc b).heap[w.heap.size]? = some a := (aX _ _ (by simp)).trans (aD w _)
theorem bU (w : World) (a b : Obj) : ((w.alloc a).alloc b).heap[w.heap.size + 1]? = some b := by simpa using aD (w.alloc a) b
theorem aPW (w : World) (a b : Obj) {k : Nat} (h : k < w.heap.size) : ((w.alloc a).alloc b).heap[k]? = w.heap[k]? := (aX _ _ (by simp; omega)).trans (aX w _ h)
theorem aCA (w : World) (a b c : Obj) : (((w.alloc a).alloc b).alloc c).heap[w.heap.size]? = some a := (aX _ _ (by simp; omega)).trans (bM w a b)
theorem aCB (w : World) (a b c : Obj) : (((w.alloc a).alloc b).alloc c).heap[w.heap.size + 1]? = some b := (aX _ _ (by simp)).trans (bU w a b)
theorem aCC (w : World) (a b c : Obj) : (((w.alloc a).alloc b).alloc c).heap[w.heap.size + 2]? = some c := by simpa using aD ((w.alloc a).alloc b) c
theorem aPY (w : World) (a b c : Obj) {k : Nat} (h : k < w.heap.size) : (((w.alloc a).alloc b).alloc c).heap[k]? = w.heap[k]? := (aX _ _ (by simp; omega)).trans (aPW w a b h)
theorem aPX (w : World) (a b : Obj) : ((w.alloc a).alloc b).heap.size = w.heap.size + 2 := by simp
theorem aCD (w : World) (a b c : Obj) : (((w.alloc a).alloc b).alloc c).heap.size = w.heap.size + 3 := by simp
theorem aV {w : World} {b : Nat} {o : Obj} (h : w.heap[b]? = some o) (k j : Nat) (v : Value) (hne : b ≠ k) : (w.setCell ⟨k, j, none⟩ v).heap[b]? = some o := by
 rw [Below.heap_setCell w ⟨k, j, none⟩ v b hne]; exact h
theorem sG {P : Program} {c : Code} {Q : Exit -> Act -> World -> Prop} {a : Act} {w : World} (h : ∀ K : Act -> World -> Prop, (∀ a w, Q .normal a w -> K a w) -> c.wp P (Exit.then K Q) a w) : c.wp P Q a w := by
 refine wp_mono (h (Q .normal) fun _ _ q => q) ?_
 intro e a' w' hq
 cases e <;> exact hq
theorem aI {w : World} {b c : Nat} {x y : Array Value} {t u : TypeId} {f g : Nat × Nat} (h : w.heap[b]? = some (.cells x t f)) (k : w.heap[c]? = some (.cells y u g)) (hne : (t == u) = false) : b ≠ c := by
 rintro rfl
 rw [h] at k
 cases k
 simp at hne
end Go.Proofs.YtaohacadochldaaGreat.B
namespace Go.Proofs.YtaohacadochldaaGreat.B
open Go.Proofs.Tryz
open Go.ChangeShapes Go.WideShapes Go.RowKit Go.Sort Go.MapKept
open Go.ChangeMaps (setBlock modify_eq_set set_perm)
structure aF (S : Nat -> Prop) (w w' : World) : Prop where
 os : w'.os = w.os
 tape : w'.tape = w.tape
 output : w'.output = w.output
 size : w.heap.size <= w'.heap.size
 block : ∀ k, k < w.heap.size -> ¬ S k -> w'.heap[k]? = w.heap[k]?
theorem aF.refl (S : Nat -> Prop) (w : World) : aF S w w := ⟨rfl, rfl, rfl, Nat.le_refl _, fun _ _ _ => rfl⟩
theorem aF.trans {S : Nat -> Prop} {a b c : World} (h : aF S a b) (k : aF S b c) : aF S a c :=
 ⟨k.os.trans h.os, k.tape.trans h.tape, k.output.trans h.output, Nat.le_trans h.size k.size, fun i hi hs => (k.block i (Nat.lt_of_lt_of_le hi h.size) hs).trans (h.block i hi hs)⟩
theorem uT {X : Nat -> Prop} (w : World) : aF X w w.drew := ⟨rfl, rfl, rfl, Nat.le_refl _, fun _ _ _ => rfl⟩
theorem aF.mono {S T : Nat -> Prop} {a b : World} (h : aF S a b) (hst : ∀ k, k < a.heap.size -> S k -> T k) : aF T a b :=
 ⟨h.os, h.tape, h.output, h.size, fun i hi hs => h.block i hi fun h1 => hs (hst i hi h1)⟩
theorem aF.next {S T : Nat -> Prop} {a b c : World} (h : aF S a b) (k : aF T b c) (hst : ∀ i, i < a.heap.size -> T i -> S i) : aF S a c :=
 ⟨k.os.trans h.os, k.tape.trans h.tape, k.output.trans h.output, Nat.le_trans h.size k.size, fun i hi hs => (k.block i (Nat.lt_of_lt_of_le hi h.size) fun h1 => hs (hst i hi h1)).trans (h.block i hi hs)⟩
theorem aF.andThen {S T U : Nat -> Prop} {a b c : World} (h : aF S a b) (k : aF T b c) (h1 : ∀ i, i < a.heap.size -> S i -> U i) (h2 : ∀ i, i < a.heap.size -> T i -> U i) : aF U a c := (h.mono h1).next k h2
theorem aF.restored {S T : Nat -> Prop} {a b : World} (h : aF S a b) (hr : ∀ k, k < a.heap.size -> S k -> ¬ T k -> b.heap[k]? = a.heap[k]?) : aF T a b :=
 ⟨h.os, h.tape, h.output, h.size, fun k hk hT => by
  by_cases hS : S k
  . exact hr k hk hS hT
  . exact h.block k hk hS⟩
theorem aF.ofBelow {S : Nat -> Prop} {a b : World} (h : Below a.heap.size a b) : aF S a b := ⟨h.os, h.tape, h.output, h.size, fun i hi _ => h.block i hi⟩
theorem aF.ofGrown {S : Nat -> Prop} {a b : World} {row : Option Nat} (h : a.grownBy b row) (hr : ∀ k, row = some k -> S k) : aF S a b :=
 ⟨h.os, h.tape, h.output, h.size, fun i hi hs => h.block i hi fun e => hs (hr i e.symm)⟩
theorem aF.ofSetCell {S : Nat -> Prop} (a : World) (p : Addr) (v : Value) (hp : S p.block) : aF S a (a.setCell p v) := by
 have h := (Below.refl p.block a).setCell (p := p) (Nat.le_refl _) v
 exact ⟨h.os, h.tape, h.output, h.size, fun k _ hs => Below.heap_setCell a p v k fun e => hs (by rw [e]; exact hp)⟩
theorem aG (w : World) (p j : Nat) (v : Value) : aF (· = p) w (w.setCell ⟨p, j, none⟩ v) := aF.ofSetCell w ⟨p, j, none⟩ v rfl
theorem aF.ofAlloc {S : Nat -> Prop} (a : World) (o : Obj) : aF S a (a.alloc o) := aF.ofBelow ((Below.refl _ _).alloc (Nat.le_refl _) o)
theorem aF.below {S : Nat -> Prop} {B : Nat} {a b : World} (h : aF S a b) (hB : ∀ k, k < B -> ¬ S k) (hle : B <= a.heap.size) : Below B a b :=
 ⟨h.os, h.tape, h.output, h.size, fun i hi => h.block i (Nat.lt_of_lt_of_le hi hle) (hB i hi)⟩
theorem aF.toBelow {B : Nat} {w a b : World} (h : Below B w a) {X : Nat -> Prop} (ho : aF X a b) (hx : ∀ k, k < B -> ¬ X k) (hB : B <= w.heap.size) : Below B w b :=
 h.trans (ho.below hx (Nat.le_trans hB h.size))
theorem lF {B p : Nat} {w a b : World} (h : Below B w a) (ho : aF (· = p) a b) (hp : B <= p) (hB : B <= w.heap.size) : Below B w b := aF.toBelow h ho (fun k hk e => by omega) hB
theorem aF.cell {S : Nat -> Prop} {a b : World} (h : aF S a b) {p : Addr} (hp : p.block < a.heap.size) (hs : ¬ S p.block) : b.cell? p = a.cell? p := by
 simp only [World.cell?, h.block p.block hp hs]
theorem aF.at {S : Nat -> Prop} {a b : World} (h : aF S a b) {k : Nat} {o : Obj} (hk : a.heap[k]? = some o) (hs : ¬ S k) : b.heap[k]? = some o := by
 rw [h.block k (lt_of_block hk) hs]; exact hk
structure vO (P : Program) (k : TypeId) {κ : Type} (ek : κ -> Value) (ok : κ -> Prop) : Prop where
 keyed : Maps.Keyed P k
 reads : ∀ i, ok i -> ∃ l, keyOf P k (ek i) = some l
 inj : ∀ i j, ek i = ek j -> i = j
def eA (w : World) {κ : Type} (ek : κ -> Value) (ok : κ -> Prop) (b : Nat) (M : List (κ × Value)) : Prop :=
 ∃ es clock, w.heap[b]? = some (.map es clock) /\ Stamped es clock /\ (es.toList.map fun e => (e.key, e.val)).Perm (M.map fun p => (ek p.1, p.2)) /\ ∀ p ∈ M, ok p.1
section
variable {P : Program} {k : TypeId} {κ : Type} {ek : κ -> Value} {ok : κ -> Prop} {w : World} {b : Nat} {M : List (κ × Value)}
theorem rU (w : World) (ek : κ -> Value) (ok : κ -> Prop) : eA (w.alloc (.map #[] 0)) ek ok w.heap.size [] :=
 ⟨#[], 0, aD w _, stamped_empty 0, List.Perm.refl _, fun _ h => by cases h⟩
theorem eA.lt (h : eA w ek ok b M) : b < w.heap.size := by obtain ⟨_, _, hb, _⟩ := h; exact lt_of_block hb
theorem eA.kept {w' : World} (h : eA w ek ok b M) (hb : w'.heap[b]? = w.heap[b]?) : eA w' ek ok b M := by
 obtain ⟨es, c, h1, h2⟩ := h; exact ⟨es, c, hb.trans h1, h2⟩
theorem eA.off {S : Nat -> Prop} {w' : World} (h : eA w ek ok b M) (ho : aF S w w') (hs : ¬ S b) : eA w' ek ok b M := h.kept (ho.block b h.lt hs)
theorem eA.below {B : Nat} {w' : World} (h : eA w ek ok b M) (ho : Below B w w') (hs : b < B) : eA w' ek ok b M := h.kept (ho.block b hs)
theorem eA.perm {M' : List (κ × Value)} (h : eA w ek ok b M) (hp : M.Perm M') : eA w ek ok b M' := by
 obtain ⟨es, c, h1, h2, h3, h4⟩ := h
 exact ⟨es, c, h1, h2, h3.trans (hp.map _), fun p hq => h4 p (hp.mem_iff.2 hq)⟩
theorem eA.nodup (h : eA w ek ok b M) : (M.map (·.1)).Nodup := by
 obtain ⟨es, c, h1, ⟨_, _, hn⟩, h3, h4⟩ := h
 have h5 := h3.map Prod.fst
 simp only [List.map_map, Function.comp_def] at h5
 have h6 : (M.map fun p => ek p.1).Nodup := (h5.nodup_iff).1 hn
 have h7 : ((M.map (·.1)).map ek).Nodup := by simpa [List.map_map, Function.comp_def] using h6
 exact (List.pairwise_map.1 h7).imp fun h e => h (by rw [e])
theorem pT (K : vO P k ek ok) {es : Array MapEntry} (h3 : (es.toList.map fun e => (e.key, e.val)).Perm (M.map fun p => (ek p.1, p.2))) (h4 : ∀ p ∈ M, ok p.1) : ∀ e ∈ es.toList, ∃ l, keyOf P k e.key = some l := by
 intro e he
 have : (e.key, e.val) ∈ M.map fun p => (ek p.1, p.2) := h3.mem_iff.1 (List.mem_map.2 ⟨e, he, rfl⟩)
 obtain ⟨p, hp, hq⟩ := List.mem_map.1 this
 obtain ⟨l, hl⟩ := K.reads p.1 (h4 p hp)
 exact ⟨l, by rw [<- (Prod.mk.inj hq).1]; exact hl⟩
theorem eA.hit (K : vO P k ek ok) {t e : TypeId} (ht : P.underlying t = some (.map k e)) (h : eA w ek ok b M) {x : κ} {v : Value} (hx : (x, v) ∈ M) (c : Bool) :
 (Instr.lookup t (.map (some b)) (ek x) c).run P w = .ok (if c then .tuple #[v, .bool true] else v) w := by
 have hnd := h.nodup
 obtain ⟨es, clock, hb, hS, h3, h4⟩ := h
 obtain ⟨l, hl⟩ := K.reads x (h4 _ hx)
 have hmem : ∃ e0 ∈ es.toList, e0.key = ek x /\ e0.val = v := by
  have : (ek x, v) ∈ es.toList.map fun e => (e.key, e.val) := h3.mem_iff.2 (List.mem_map.2 ⟨_, hx, rfl⟩)
  obtain ⟨e0, he, hq⟩ := List.mem_map.1 this
  exact ⟨e0, he, (Prod.mk.inj hq).1, (Prod.mk.inj hq).2⟩
 obtain ⟨e0, he0, hk0, hv0⟩ := hmem
 rcases K.keyed.find w hl es.toList (pT K h3 h4) with ⟨h1, h2⟩ | ⟨j, e1, h1, h2, hk1⟩
 . exact absurd hk0 (h2 e0 he0)
 . have : e1 = e0 := by
    have hn := hS.2.2
    have he1 : e1 ∈ es.toList := List.mem_of_getElem? h2
    obtain ⟨i, hi, rfl⟩ := List.getElem_of_mem he0
    obtain ⟨i', hi', rfl⟩ := List.getElem_of_mem he1
    have hij : i' = i := by
     have h5 : (es.toList.map (·.key))[i']'(by simpa using hi') = (es.toList.map (·.key))[i]'(by simpa using hi) := by
      rw [List.getElem_map, List.getElem_map, hk0, hk1]
     exact (List.getElem_inj hn).1 h5
    subst hij; rfl
   subst this
   simp [Instr.lookup, run_underlying ht, MapKept.run_getObj_map hb, K.keyed.check w _ hl, h1, hv0, Result.andThen]
theorem eA.miss (K : vO P k ek ok) {t e : TypeId} (ht : P.underlying t = some (.map k e)) (h : eA w ek ok b M) {x : κ} {z : Value} (hx : ∀ p ∈ M, p.1 ≠ x) (hok : ok x) (hz : (zeroValue e).run P w = .ok z w) (c : Bool) :
 (Instr.lookup t (.map (some b)) (ek x) c).run P w = .ok (if c then .tuple #[z, .bool false] else z) w := by
 obtain ⟨es, clock, hb, hS, h3, h4⟩ := h
 obtain ⟨l, hl⟩ := K.reads x hok
 rcases K.keyed.find w hl es.toList (pT K h3 h4) with ⟨h1, h2⟩ | ⟨j, e1, h1, h2, hk1⟩
 . simp [Instr.lookup, run_underlying ht, MapKept.run_getObj_map hb, K.keyed.check w _ hl, h1, hz, Result.andThen]
 . have he1 : e1 ∈ es.toList := List.mem_of_getElem? h2
   have : (e1.key, e1.val) ∈ M.map fun p => (ek p.1, p.2) := h3.mem_iff.1 (List.mem_map.2 ⟨e1, he1, rfl⟩)
   obtain ⟨p, hp, hq⟩ := List.mem_map.1 this
   exact absurd (K.inj _ _ ((Prod.mk.inj hq).1.trans hk1)) (hx p hp)
theorem yT [DecidableEq κ] {x : κ} {v : Value} : ∀ {M : List (κ × Value)}, (M.map (·.1)).Nodup -> (x, v) ∈ M -> M.Perm ((x, v) :: M.filter fun p => decide (p.1 ≠ x))
 | [], _, h => by cases h
 | q :: M, hn, h => by
   simp only [List.map_cons, List.nodup_cons] at hn
   rcases List.mem_cons.1 h with rfl | h'
   . have : M.filter (fun p => decide (p.1 ≠ x)) = M := List.filter_eq_self.2 fun p hp => by
      have : p.1 ≠ x := fun e => hn.1 (by rw [<- e]; exact List.mem_map.2 ⟨p, hp, rfl⟩)
      simpa using this
     rw [List.filter_cons, if_neg (by simp), this]
   . have hq : q.1 ≠ x := fun e => hn.1 (by rw [e]; exact List.mem_map.2 ⟨_, h', rfl⟩)
     rw [List.filter_cons, if_pos (by simpa using hq)]
     exact ((yT hn.2 h').cons q).trans (List.Perm.swap _ _ _)
theorem lS {S : Nat -> Prop} (w : World) (b : Nat) (o : Obj) (hs : S b) : aF S w (setBlock w b o) :=
 ⟨rfl, rfl, rfl, by simp [setBlock], fun k _ h => by
  have : k ≠ b := fun e => h (by rw [e]; exact hs)
  simp [setBlock, Array.getElem?_setIfInBounds, Ne.symm this]⟩
theorem eG (w : World) (b : Nat) (o : Obj) (hb : b < w.heap.size) : (setBlock w b o).heap[b]? = some o := by
 simp [setBlock, Array.getElem?_setIfInBounds, hb]
def mZ [DecidableEq κ] (x : κ) (v : Value) (M : List (κ × Value)) : List (κ × Value) := (x, v) :: M.filter fun p => decide (p.1 ≠ x)
theorem eA.update [DecidableEq κ] (K : vO P k ek ok) {t e : TypeId} (ht : P.underlying t = some (.map k e)) (h : eA w ek ok b M) (x : κ) (v : Value) (hok : ok x) :
 ∃ es' clock', (Instr.mapUpdate t (.map (some b)) (ek x) v).run P w = .ok () (setBlock w b (.map es' clock')) /\ eA (setBlock w b (.map es' clock')) ek ok b (mZ x v M) := by
 have hlt := h.lt
 have hnd := h.nodup
 obtain ⟨es, clock, hb, hS, h3, h4⟩ := h
 obtain ⟨l, hl⟩ := K.reads x hok
 have hok' : ∀ p ∈ mZ x v M, ok p.1 := fun p hp => by
  rcases List.mem_cons.1 hp with rfl | hp
  . exact hok
  . exact h4 p (List.mem_filter.1 hp).1
 rcases K.keyed.find w hl es.toList (pT K h3 h4) with ⟨h1, h2⟩ | ⟨j, e0, h1, h2, hk0⟩
 . refine ⟨es.push ⟨ek x, v, clock⟩, clock + 1, ?_, es.push ⟨ek x, v, clock⟩, clock + 1, eG w b _ hlt, stamped_push hS h2, ?_, hok'⟩
   . simp [Instr.mapUpdate, run_underlying ht, MapKept.run_getObj_map hb, K.keyed.check w false hl, h1, MapKept.run_setObj_map _ hb, Result.andThen, setBlock]
   . have hno : M.filter (fun p => decide (p.1 ≠ x)) = M := List.filter_eq_self.2 fun p hp => by
      have : p.1 ≠ x := fun e1 => by
       have : (ek p.1, p.2) ∈ es.toList.map fun e => (e.key, e.val) := h3.mem_iff.2 (List.mem_map.2 ⟨p, hp, rfl⟩)
       obtain ⟨e2, he2, hq⟩ := List.mem_map.1 this
       exact h2 e2 he2 (by rw [<- e1]; exact (Prod.mk.inj hq).1)
      simpa using this
     unfold mZ
     rw [hno, Array.toList_push, List.map_append, List.map_singleton]
     exact (List.perm_append_singleton _ _).trans (h3.cons _)
 . have hj : es[j]? = some e0 := by simpa using h2
   have hlist : (es.modify j (fun e' => { e' with key := ek x, val := v })).toList = es.toList.set j { e0 with key := ek x, val := v } := by rw [Array.toList_modify, modify_eq_set _ _ _ _ h2]
   have hkeyf : ∀ e', es[j]? = some e' -> ({ e' with key := ek x, val := v } : MapEntry).key = e'.key := fun e' he' => by rw [hj] at he'; cases he'; exact hk0.symm
   refine ⟨es.modify j (fun e' => { e' with key := ek x, val := v }), clock, ?_, es.modify j (fun e' => { e' with key := ek x, val := v }), clock, eG w b _ hlt, stamped_modify hS _ _ (fun _ _ => rfl) (fun e' _ he' => hkeyf e' he'), ?_, hok'⟩
   . simp [Instr.mapUpdate, run_underlying ht, MapKept.run_getObj_map hb, K.keyed.check w false hl, h1, hj, hk0, K.keyed.stays w hl, MapKept.run_setObj_map _ hb, Result.andThen, setBlock]
   . rw [hlist, List.map_set]
     have hjl : j < es.toList.length := (List.getElem?_eq_some_iff.1 h2).1
     have hm : (ek x, e0.val) ∈ M.map fun p => (ek p.1, p.2) := h3.mem_iff.1 (List.mem_map.2 ⟨e0, List.mem_of_getElem? h2, by rw [hk0]⟩)
     obtain ⟨q, hq, hq2⟩ := List.mem_map.1 hm
     have hqx : q = (x, e0.val) := Prod.ext (K.inj _ _ (Prod.mk.inj hq2).1) (Prod.mk.inj hq2).2
     subst hqx
     have hp1 := yT hnd hq
     have hp2 : (es.toList.map fun e => (e.key, e.val)).Perm ((ek x, e0.val) :: (es.toList.map fun e => (e.key, e.val)).eraseIdx j) := by
      have := set_perm (es.toList.map fun e => (e.key, e.val)) j (by simpa using hjl) ((es.toList.map fun e => (e.key, e.val))[j]'(by simpa using hjl))
      rw [List.set_getElem_self] at this
      have he : (es.toList.map fun e => (e.key, e.val))[j]'(by simpa using hjl) = (ek x, e0.val) := by
       have := (List.getElem?_eq_some_iff.1 h2).2
       rw [List.getElem_map, this, hk0]
      rw [he] at this
      exact this
     have hp3 := (hp2.symm.trans (h3.trans (hp1.map _)))
     simp only [List.map_cons] at hp3
     have hp4 := (List.perm_cons _).1 hp3
     refine (set_perm _ _ (by simpa using hjl) _).trans ?_
     simp only [mZ, List.map_cons]
     exact hp4.cons _
end
section
variable {P : Program} {k e : TypeId} {κ : Type} {ek : κ -> Value} {ok : κ -> Prop} {w : World} {b : Nat} {M : List (κ × Value)} {ops : Array Oper} {rest : List Oper} {o : Oper} {a : Act} {Q : Exit -> Act -> World -> Prop}
theorem vU (K : vO P k ek ok) (hg : o.guard = none) (m x : Operand) (t : TypeId) (hop : o.op = Op.lookup t m x true) (ht : P.underlying t = some (.map k e)) (hm : a.eval m = .map (some b)) (hown : eA w ek ok b M)
 (key : κ) (v : Value) (hx : a.eval x = ek key) (hin : (key, v) ∈ M) (hK : wpList P ops Q rest (a.put o.dst (.tuple #[v, .bool true])) w) : wpList P ops Q (o :: rest) a w := by
 refine wpList_plain hg fun K' hK' => ?_
 have hrun := hown.hit K ht hin true
 unfold Oper.wp
 simp [execOp, hop, hm, hx, hrun, Result.andThen]
 exact hK' _ _ hK
theorem vN (K : vO P k ek ok) (hg : o.guard = none) (m x : Operand) (t : TypeId) (hop : o.op = Op.lookup t m x true) (ht : P.underlying t = some (.map k e)) (hm : a.eval m = .map (some b)) (hown : eA w ek ok b M)
 (key : κ) (z : Value) (hx : a.eval x = ek key) (hin : ∀ p ∈ M, p.1 ≠ key) (hok : ok key) (hz : (zeroValue e).run P w = .ok z w) (hK : wpList P ops Q rest (a.put o.dst (.tuple #[z, .bool false])) w) : wpList P ops Q (o :: rest) a w := by
 refine wpList_plain hg fun K' hK' => ?_
 have hrun := hown.miss K ht hin hok hz true
 unfold Oper.wp
 simp [execOp, hop, hm, hx, hrun, Result.andThen]
 exact hK' _ _ hK
theorem pL [DecidableEq κ] (K : vO P k ek ok) (hg : o.guard = none) (m x v : Operand) (t : TypeId) (hop : o.op = Op.mapUpdate t m x v) (ht : P.underlying t = some (.map k e)) (hm : a.eval m = .map (some b)) (hown : eA w ek ok b M)
 (key : κ) (val : Value) (hx : a.eval x = ek key) (hv : a.eval v = val) (hok : ok key) (hK : ∀ w', eA w' ek ok b (mZ key val M) -> aF (· = b) w w' -> wpList P ops Q rest (a.put o.dst undef) w') : wpList P ops Q (o :: rest) a w := by
 refine wpList_plain hg fun K' hK' => ?_
 obtain ⟨es', clock', hrun, hmap⟩ := hown.update K ht key val hok
 unfold Oper.wp
 simp [execOp, hop, hm, hx, hv, hrun, Result.andThen]
 exact hK' _ _ (hK _ hmap (lS w b _ rfl))
end
end Go.Proofs.YtaohacadochldaaGreat.B
namespace Go.Proofs.YtaohacadochldaaGreat.B
open Go.Proofs.Tryz
open Go.ChangeShapes Go.WideShapes Go.RowKit Go.Sort Go.MapKept
theorem aDa {P : Program} {k : TypeId} {q : IntKind} {f : Field} (hk : P.underlying k = some (.struct #[f])) (hf : P.underlying f.type = some (.int q)) (h0 : f.offset = 0) (hn : (f.name != "_") = true)
 {n : Nat} (hs : P.types.size = n + 1) (hc : P.cellsOf k = 1) (hd : P.cellsOf f.type = 1) (hkey : P.keyType k = true) {a : Int} (hw : (Lit.int q a).wf = true) :
 ∃ l, keyOf P k (.agg #[.int q a]) = some l := by
 have hfm : (Value.agg #[Value.int q a]).formed P k = true := by simp [Value.formed, hk, hc]
 refine ⟨.string (keyBytes [.int q a]), ?_⟩
 have e1 : P.keyLits (n + 1) f.type [Value.int q a] = some [Lit.int q a] := by simp [Program.keyLits, hf, hw]
 have e2 : P.keyLits (P.types.size + 1) k [Value.int q a] = some [Lit.int q a] := by
  rw [hs]
  have : P.keyLits (n + 1 + 1) k [Value.int q a] = (if [Value.int q a].length = P.cellsOf k /\ (#[f]).all (·.name != "_") = true then ((#[f]).toList.mapM fun f => P.keyLits (n + 1) f.type (([Value.int q a].drop f.offset).take (P.cellsOf f.type))).map List.flatten else none) := by
   rw [Program.keyLits.eq_def]; simp only [hk]
  rw [this, if_pos ⟨by simp [hc], by simpa using hn⟩]
  simp [h0, hd, e1]
 unfold keyOf
 rw [hk]
 simp only [hkey, hfm, Bool.and_self, if_true]
 show ((P.keyLits (P.types.size + 1) k [Value.int q a]).map _) = _
 rw [e2]; rfl
theorem wf_u32 {a : Int} (h0 : 0 <= a) (h1 : a < 4294967296) : (Lit.int .u32 a).wf = true := WalkArith.wf_u32 (by omega)
def ek (a : Int) : Value := .agg #[.int .u32 a]
def lT (a : Int) : Prop := 0 <= a /\ a < 4294967296
theorem aFt (i j : Int) (h : ek i = ek j) : i = j := by unfold ek at h; simpa using h
theorem aGL : laidOutB prog = true := by kernel_rfl
theorem aKm : prog.types.size = (prog.types.size - 1) + 1 := by kernel_rfl
theorem aEO : Maps.Keyed prog 289 :=
 Maps.Keyed.of_law (deep_law_laid aGL (m := 2) (by omega) (of_decide_eq_true (by kernel_rfl)) (by kernel_rfl) (by rw [underlying289]))
theorem fY : vO prog 289 ek lT :=
 ⟨aEO, fun i h => aDa underlying289 underlying26 rfl (by decide) aKm (by kernel_rfl) (by kernel_rfl) (by kernel_rfl) (wf_u32 h.1 h.2), aFt⟩
theorem aIx : Maps.Keyed prog 305 :=
  Maps.Keyed.of_law (deep_law_laid aGL (m := 2) (by omega) (of_decide_eq_true (by kernel_rfl)) (by kernel_rfl) (by rw [underlying305]))
theorem aAO : vO prog 305 ek lT :=
  ⟨aIx, fun i h => aDa underlying305 underlying26 rfl (by decide) aKm (by kernel_rfl) (by kernel_rfl) (by kernel_rfl) (wf_u32 h.1 h.2), aFt⟩
end Go.Proofs.YtaohacadochldaaGreat.B
