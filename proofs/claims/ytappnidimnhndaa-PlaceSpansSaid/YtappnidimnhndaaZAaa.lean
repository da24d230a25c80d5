/- Several texts in one: Small words of all stages: returned values, worlds that grow. Layer 18 (place) in plain numbers: where a deadline belongs, .. -/
import Derived.Test.YtappnidimnhndaaRows
import Derived.WalkKit
import Derived.WalkLawsBesides
import Derived.Lib.Hide
import Derived.Lib.QuietBelow
import Derived.Laws.ResultCell
import Derived.Deep.QuietTactic
import Derived.BigQuiet
import Derived.Laws.BitsAllLaws
import Derived.RowKit
import Derived.Laws.BitsLemmas
import Derived.IntWalk
import Derived.Laws.StructEq
import Derived.ChangeKeysEq
namespace Go.Proofs.Ytappnidimnhndaa.B
set_option linter.unusedVariables false
set_option linter.unusedSimpArgs false
open Go.ChangeShapes Go.WideShapes Go.RowKit Go.Sort
theorem Hd {p : Prop} (h : p) : Go.RowKit.Hid p := h
abbrev RetB (P : Program) (f : FuncId) (args : Array Value) (w : World) (v : Value) : Prop := Calls P f args w fun e w' => e = .returned v ∧ Below w.heap.size w w'
theorem ret_int {k : IntKind} {a b : Int} (h : a = b) : Ending.returned (.int k a) = .returned (.int k b) := by rw [h]
theorem tr {a b c : World} (h : Below a.heap.size a b) (k : Below b.heap.size b c) : Below a.heap.size a c := h.trans (k.mono h.size)
theorem trA {a b : World} (h : Below a.heap.size a b) (o : Obj) : Below a.heap.size a (b.alloc o) := h.alloc h.size o
theorem tr0 (a : World) : Below a.heap.size a a := Below.refl _ _
theorem bcell {W w1 : World} (hb : Below W.heap.size W w1) : (∀ b o, b < W.heap.size → w1.cell? ⟨b, o, none⟩ = W.cell? ⟨b, o, none⟩) ∧ (∀ b o, b < W.heap.size → w1.frozen? ⟨b, o, none⟩ = W.frozen? ⟨b, o, none⟩) :=
 ⟨fun b o h => hb.cell (p := ⟨b, o, none⟩) h, fun b o h => hb.frozen (p := ⟨b, o, none⟩) h⟩
theorem gcell (W : World) (d : Nat) (os : Array Obj) (b o : Nat) (h : b < W.heap.size) : (grow (redrawn W d) os).cell? ⟨b, o, none⟩ = W.cell? ⟨b, o, none⟩ := (bcell (below_regrown W d os)).1 b o h
theorem gfrozen (W : World) (d : Nat) (os : Array Obj) (b o : Nat) (h : b < W.heap.size) : (grow (redrawn W d) os).frozen? ⟨b, o, none⟩ = W.frozen? ⟨b, o, none⟩ := (bcell (below_regrown W d os)).2 b o h
theorem blk_cell {w : World} {b : Nat} {cs : Array Value} {t : TypeId} (h : w.heap[b]? = some (.cells cs t (0, 0))) (j : Nat) : w.cell? ⟨b, j, none⟩ = cs[j]? := by simp [World.cell?, h]
theorem blk_free {w : World} {b : Nat} {cs : Array Value} {t : TypeId} (h : w.heap[b]? = some (.cells cs t (0, 0))) (j : Nat) : w.frozen? ⟨b, j, none⟩ = false := by simp [World.frozen?, h]
theorem blk_set {w : World} {b : Nat} {cs : Array Value} {t : TypeId} (h : w.heap[b]? = some (.cells cs t (0, 0))) (j : Nat) (v : Value) : (w.setCell ⟨b, j, none⟩ v).heap[b]? = some (.cells (cs.setIfInBounds j v) t (0, 0)) :=
 heap_setCell_same w b j cs t v h
theorem blk_below {B : Nat} {w w' : World} (hb : Below B w w') {b : Nat} {o : Obj} (h : w.heap[b]? = some o) (hl : b < B) : w'.heap[b]? = some o := by rw [hb.block b hl]; exact h
theorem blk_new (w : World) (o : Obj) : (w.alloc o).heap[w.heap.size]? = some o := by show (w.heap.push o)[w.heap.size]? = _; simp
theorem blk_old (w : World) (o : Obj) {b : Nat} (h : b < w.heap.size) : (w.alloc o).heap[b]? = w.heap[b]? := by show (w.heap.push o)[b]? = _; rw [Array.getElem?_push, if_neg (by omega)]
theorem b2_0 (w : World) (a b : Obj) : ((w.alloc a).alloc b).heap[w.heap.size]? = some a := (blk_old _ _ (by simp)).trans (blk_new w _)
theorem b2_1 (w : World) (a b : Obj) : ((w.alloc a).alloc b).heap[w.heap.size + 1]? = some b := by simpa using blk_new (w.alloc a) b
end Go.Proofs.Ytappnidimnhndaa.B
namespace Go.Proofs.Ytappnidimnhndaa.B
set_option linter.unusedVariables false
set_option linter.unusedSimpArgs false
def pq : Nat → Int
 | 0 => 1
 | 1 => 64
 | 2 => 4096
 | 3 => 262144
 | 4 => 16777216
 | 5 => 1073741824
 | 6 => 68719476736
 | 7 => 4398046511104
 | _ => 281474976710656
def lv (b d : Int) : Nat :=
 if b / 64 = d / 64 then 0 else if b / 4096 = d / 4096 then 1 else if b / 262144 = d / 262144 then 2 else if b / 16777216 = d / 16777216 then 3 else
 if b / 1073741824 = d / 1073741824 then 4 else if b / 68719476736 = d / 68719476736 then 5 else if b / 4398046511104 = d / 4398046511104 then 6 else if b / 281474976710656 = d / 281474976710656 then 7 else 8
abbrev Pk := Int × Int
def plc (b d : Int) : Pk := if d ≤ b then (-1, 0) else if lv b d = 8 then (8, 0) else ((lv b d : Int), d / pq (lv b d) % 64)
def rgt (k : Pk) : Bool := decide (k = (-1, 0) ∨ k = (8, 0) ∨ (0 ≤ k.1 ∧ k.1 < 8 ∧ 0 < k.2 ∧ k.2 < 64))
def lss (a b : Pk) : Bool := decide (a.1 < b.1 ∨ (a.1 = b.1 ∧ a.2 < b.2))
def spn (b : Int) (k : Pk) : Int × Int × Bool :=
 if k = (-1, 0) then (0, b, true)
 else if k = (8, 0) then (if b / 281474976710656 = 65535 then (0, 0, false) else ((b / 281474976710656 + 1) * 281474976710656, 18446744073709551615, true))
 else if k.1 < 0 ∨ 7 < k.1 ∨ k.2 < 1 ∨ 63 < k.2 then (0, 0, false)
 else if k.2 ≤ b / pq k.1.toNat % 64 then (0, 0, false)
 else (b / pq k.1.toNat / 64 * 64 * pq k.1.toNat + k.2 * pq k.1.toNat, b / pq k.1.toNat / 64 * 64 * pq k.1.toNat + k.2 * pq k.1.toNat + pq k.1.toNat - 1, true)
def tch (b t : Int) (k : Pk) : Bool := (spn b k).2.2 && decide ((spn b k).1 ≤ t)
def u64q (a : Int) : Prop := 0 ≤ a ∧ a < 18446744073709551616
theorem lv_spec (b d : Int) : (lv b d = 0 ∧ b / 64 = d / 64) ∨ (lv b d = 1 ∧ b / 64 ≠ d / 64 ∧ b / 4096 = d / 4096) ∨ (lv b d = 2 ∧ b / 4096 ≠ d / 4096 ∧ b / 262144 = d / 262144) ∨ (lv b d = 3 ∧ b / 262144 ≠ d / 262144 ∧ b / 16777216 = d / 16777216) ∨
 (lv b d = 4 ∧ b / 16777216 ≠ d / 16777216 ∧ b / 1073741824 = d / 1073741824) ∨ (lv b d = 5 ∧ b / 1073741824 ≠ d / 1073741824 ∧ b / 68719476736 = d / 68719476736) ∨ (lv b d = 6 ∧ b / 68719476736 ≠ d / 68719476736 ∧ b / 4398046511104 = d / 4398046511104) ∨
 (lv b d = 7 ∧ b / 4398046511104 ≠ d / 4398046511104 ∧ b / 281474976710656 = d / 281474976710656) ∨ (lv b d = 8 ∧ b / 281474976710656 ≠ d / 281474976710656) := by
 unfold lv
 by_cases h0 : b / 64 = d / 64
 · rw [if_pos h0]; exact .inl ⟨rfl, h0⟩
 rw [if_neg h0]
 by_cases h1 : b / 4096 = d / 4096
 · rw [if_pos h1]; exact .inr (.inl ⟨rfl, h0, h1⟩)
 rw [if_neg h1]
 by_cases h2 : b / 262144 = d / 262144
 · rw [if_pos h2]; exact .inr (.inr (.inl ⟨rfl, h1, h2⟩))
 rw [if_neg h2]
 by_cases h3 : b / 16777216 = d / 16777216
 · rw [if_pos h3]; exact .inr (.inr (.inr (.inl ⟨rfl, h2, h3⟩)))
 rw [if_neg h3]
 by_cases h4 : b / 1073741824 = d / 1073741824
 · rw [if_pos h4]; exact .inr (.inr (.inr (.inr (.inl ⟨rfl, h3, h4⟩))))
 rw [if_neg h4]
 by_cases h5 : b / 68719476736 = d / 68719476736
 · rw [if_pos h5]; exact .inr (.inr (.inr (.inr (.inr (.inl ⟨rfl, h4, h5⟩)))))
 rw [if_neg h5]
 by_cases h6 : b / 4398046511104 = d / 4398046511104
 · rw [if_pos h6]; exact .inr (.inr (.inr (.inr (.inr (.inr (.inl ⟨rfl, h5, h6⟩))))))
 rw [if_neg h6]
 by_cases h7 : b / 281474976710656 = d / 281474976710656
 · rw [if_pos h7]; exact .inr (.inr (.inr (.inr (.inr (.inr (.inr (.inl ⟨rfl, h6, h7⟩)))))))
 rw [if_neg h7]
 exact .inr (.inr (.inr (.inr (.inr (.inr (.inr (.inr ⟨rfl, h7⟩)))))))
inductive Pos (b d : Int) : Pk → Prop where
 | late : d ≤ b → Pos b d (-1, 0)
 | far : b / 281474976710656 < d / 281474976710656 → Pos b d (8, 0)
 | at (j : Nat) (s : Int) : j < 8 → b / (pq j * 64) = d / (pq j * 64) → b / pq j % 64 < s → d / pq j % 64 = s → b < d → Pos b d ((j : Int), s)
theorem plc_pos (b d : Int) : Pos b d (plc b d) := by
 unfold plc
 by_cases h : d ≤ b
 · rw [if_pos h]; exact .late h
 rw [if_neg h]
 rcases lv_spec b d with h1 | h1 | h1 | h1 | h1 | h1 | h1 | h1 | h1
 all_goals obtain ⟨e, h2⟩ := h1
 all_goals rw [e]
 case inr.inr.inr.inr.inr.inr.inr.inr => rw [if_pos rfl]; exact .far (by omega)
 all_goals rw [if_neg (by decide)]
 all_goals refine .at _ _ (by decide) ?_ ?_ rfl (by omega)
 all_goals simp only [pq]
 all_goals omega
theorem pos_plc {b d : Int} {k : Pk} (h : Pos b d k) : plc b d = k := by
 unfold plc
 cases h with
 | late h => rw [if_pos h]
 | far h =>
   rw [if_neg (by omega)]
   rcases lv_spec b d with h1 | h1 | h1 | h1 | h1 | h1 | h1 | h1 | h1
   case inr.inr.inr.inr.inr.inr.inr.inr => rw [if_pos h1.1]
   all_goals exfalso
   all_goals omega
 | «at» j s hj h1 h2 h3 h4 =>
   rw [if_neg (by omega)]
   have hj2 : j = 0 ∨ j = 1 ∨ j = 2 ∨ j = 3 ∨ j = 4 ∨ j = 5 ∨ j = 6 ∨ j = 7 := by omega
   have e : lv b d = j := by
    rcases hj2 with rfl | rfl | rfl | rfl | rfl | rfl | rfl | rfl <;> simp only [pq] at h1 h2 h3 <;>
     rcases lv_spec b d with g | g | g | g | g | g | g | g | g <;> omega
   rw [e, if_neg (by omega), h3]
theorem spn_late (b : Int) : spn b (-1, 0) = (0, b, true) := if_pos rfl
theorem spn_at (b : Int) {j : Nat} {s : Int} (hj : j < 8) (s0 : b / pq j % 64 < s) (s1 : s < 64) : spn b ((j : Int), s) = (b / pq j / 64 * 64 * pq j + s * pq j, b / pq j / 64 * 64 * pq j + s * pq j + pq j - 1, true) := by
 have hj2 : j = 0 ∨ j = 1 ∨ j = 2 ∨ j = 3 ∨ j = 4 ∨ j = 5 ∨ j = 6 ∨ j = 7 := by omega
 have n1 : ¬ (((j : Int), s) : Pk) = (-1, 0) := fun e => by have := (Prod.mk.inj e).1; omega
 have n2 : ¬ (((j : Int), s) : Pk) = (8, 0) := fun e => by have := (Prod.mk.inj e).1; omega
 have p : 0 ≤ b / pq j % 64 := by rcases hj2 with rfl | rfl | rfl | rfl | rfl | rfl | rfl | rfl <;> simp only [pq] <;> omega
 unfold spn
 rw [if_neg n1, if_neg n2, if_neg (by show ¬ ((j : Int) < 0 ∨ 7 < (j : Int) ∨ s < 1 ∨ 63 < s); omega)]
 show (if s ≤ b / pq (j : Int).toNat % 64 then _ else _) = _
 rw [Int.toNat_natCast, if_neg (by omega)]
theorem plc_right (b d : Int) : rgt (plc b d) = true := by
 have h := plc_pos b d
 generalize plc b d = k at *
 unfold rgt
 rw [decide_eq_true_eq]
 cases h with
 | late h => exact .inl rfl
 | far h => exact .inr (.inl rfl)
 | «at» j s hj h1 h2 h3 h4 =>
   have hj2 : j = 0 ∨ j = 1 ∨ j = 2 ∨ j = 3 ∨ j = 4 ∨ j = 5 ∨ j = 6 ∨ j = 7 := by omega
   have p : 0 ≤ b / pq j % 64 := by rcases hj2 with rfl | rfl | rfl | rfl | rfl | rfl | rfl | rfl <;> simp only [pq] <;> omega
   have q : s < 64 := by rw [← h3]; exact Int.emod_lt_of_pos _ (by decide)
   exact .inr (.inr ⟨by show 0 ≤ (j : Int); omega, by show (j : Int) < 8; omega, by show 0 < s; omega, q⟩)
theorem span_law {b d : Int} (hb : u64q b) (hd : u64q d) : ∃ x y, spn b (plc b d) = (x, y, true) ∧ u64q x ∧ u64q y ∧ x ≤ d ∧ d ≤ y ∧ plc b x = plc b d ∧ plc b y = plc b d ∧ (0 < x → plc b (x - 1) ≠ plc b d) ∧ (y ≠ 18446744073709551615 → plc b (y + 1) ≠ plc b d) := by
 obtain ⟨b0, b1⟩ := hb
 obtain ⟨d0, d1⟩ := hd
 have h := plc_pos b d
 generalize plc b d = k at *
 cases h with
 | late h =>
   refine ⟨0, b, spn_late b, ⟨by omega, by omega⟩, ⟨b0, b1⟩, d0, h, pos_plc (.late b0), pos_plc (.late (Int.le_refl b)), fun h => absurd h (by decide), fun _ e => ?_⟩
   have h2 := plc_pos b (b + 1)
   rw [e] at h2
   cases h2 with
   | late h => omega
 | far h =>
   have hne : ¬ b / 281474976710656 = 65535 := by omega
   refine ⟨(b / 281474976710656 + 1) * 281474976710656, 18446744073709551615, ?_, ⟨by omega, by omega⟩, ⟨by decide, by decide⟩, by omega, by omega, pos_plc (.far (by omega)), pos_plc (.far (by omega)), fun h0 e => ?_, fun h0 => absurd rfl h0⟩
   · unfold spn
     rw [if_neg (by decide), if_pos rfl, if_neg hne]
   · have h2 := plc_pos b ((b / 281474976710656 + 1) * 281474976710656 - 1)
     rw [e] at h2
     cases h2 with
     | far h => omega
     | «at» j s hj _ _ _ _ => omega
 | «at» j s hj h1 h2 h3 h4 =>
   have q : s < 64 := by rw [← h3]; exact Int.emod_lt_of_pos _ (by decide)
   have hs := spn_at b hj h2 q
   have hj2 : j = 0 ∨ j = 1 ∨ j = 2 ∨ j = 3 ∨ j = 4 ∨ j = 5 ∨ j = 6 ∨ j = 7 := by omega
   rw [hs]
   refine ⟨_, _, rfl, ?_⟩
   have no : ∀ e : Int, (¬ (b / (pq j * 64) = e / (pq j * 64) ∧ e / pq j % 64 = s)) → plc b e ≠ ((j : Int), s) := fun e hn he => by
    have h5 := plc_pos b e
    rw [he] at h5
    generalize hk : (((j : Int), s) : Pk) = k at h5
    cases h5 with
    | late h => have := (Prod.mk.inj hk).1; omega
    | far h => have := (Prod.mk.inj hk).1; omega
    | «at» j2 s2 hj2 g1 g2 g3 g4 =>
      obtain ⟨e1, e2⟩ := Prod.mk.inj hk
      have e1 : j = j2 := by omega
      subst e1 e2
      exact hn ⟨g1, g3⟩
   have hx : b / pq j / 64 * 64 * pq j + s * pq j = d / pq j * pq j ∧ u64q (b / pq j / 64 * 64 * pq j + s * pq j) ∧ u64q (b / pq j / 64 * 64 * pq j + s * pq j + pq j - 1) := by
    unfold u64q
    rcases hj2 with rfl | rfl | rfl | rfl | rfl | rfl | rfl | rfl <;> simp only [pq] at h1 h2 h3 ⊢ <;> omega
   obtain ⟨hx1, hx2, hx3⟩ := hx
   rw [hx1] at hx2 hx3 ⊢
   refine ⟨hx2, hx3, ?_⟩
   have hy : b < d / pq j * pq j ∧ d / pq j * pq j ≤ d ∧ d ≤ d / pq j * pq j + pq j - 1 ∧ b / (pq j * 64) = (d / pq j * pq j) / (pq j * 64) ∧ (d / pq j * pq j) / pq j % 64 = s ∧ b / (pq j * 64) = (d / pq j * pq j + pq j - 1) / (pq j * 64) ∧ (d / pq j * pq j + pq j - 1) / pq j % 64 = s ∧
    ¬ (b / (pq j * 64) = (d / pq j * pq j - 1) / (pq j * 64) ∧ (d / pq j * pq j - 1) / pq j % 64 = s) ∧ ¬ (b / (pq j * 64) = (d / pq j * pq j + pq j - 1 + 1) / (pq j * 64) ∧ (d / pq j * pq j + pq j - 1 + 1) / pq j % 64 = s) := by
    rcases hj2 with rfl | rfl | rfl | rfl | rfl | rfl | rfl | rfl <;> simp only [pq] at h1 h2 h3 ⊢ <;> omega
   obtain ⟨y1, y2, y3, y4, y5, y6, y7, y8, y9⟩ := hy
   exact ⟨y2, y3, pos_plc (.at j s hj y4 h2 y5 y1), pos_plc (.at j s hj y6 h2 y7 (by omega)), fun _ => no _ y8, fun _ => no _ y9⟩
def hi (a : Int) : Int := a / 4294967296
def addS (a b : Int) : Int := if 18446744073709551615 - b < a then 18446744073709551615 else a + b
def mask (n : Int) : Int := if n < 0 then 0 else if 64 ≤ n then 18446744073709551615 else 2 ^ n.toNat - 1
def pw (k : Nat) : Int := 64 ^ k
def dig (n level : Int) : Int := if level < 0 then 0 else if 8 ≤ level then n / pw 8 % 64 else n / pw level.toNat % 64
def withd (n level d : Int) : Int :=
 if level < 0 then n else if 8 ≤ level then n else n / pw (level.toNat + 1) * pw (level.toNat + 1) + d % 64 * pw level.toNat
def digr (n : Int) (k : Nat) : Int := if k = 8 then n / pw 8 else n / pw k % 64
def topB (a b : Int) : Nat → Int
 | 0 => -1
 | k + 1 => if digr a k = digr b k then topB a b k else k
def top (a b : Int) : Int := topB a b 9
def bit (n : Int) (i : Nat) : Bool := decide (n / 2 ^ i % 2 = 1)
def firstB (n f : Int) : Nat → Nat → Int
 | 0, _ => -1
 | k + 1, i => if f ≤ (i : Int) ∧ bit n i = true then i else firstB n f k (i + 1)
def first (n f : Int) : Int := firstB n f 64 0
theorem pw_pos (k : Nat) : 1 ≤ pw k := by
 unfold pw; have : (0 : Int) < 64 ^ k := Int.pow_pos (by decide); omega
theorem pw_succ (k : Nat) : pw (k + 1) = pw k * 64 := by unfold pw; rw [Int.pow_succ]
theorem pw_le {k : Nat} (h : k ≤ 8) : pw k ≤ 281474976710656 := by
 have h2 : ∀ k : Fin 9, pw k.1 ≤ 281474976710656 := by decide
 exact h2 ⟨k, by omega⟩
theorem pw8 : pw 8 = 281474976710656 := by decide
theorem pw_two (k : Nat) : pw k = 2 ^ (6 * k) := by unfold pw; rw [Int.pow_mul]; rfl
theorem dig_nonneg (n l : Int) : 0 ≤ dig n l := by unfold dig; split <;> (try split) <;> omega
theorem dig_lt (n l : Int) : dig n l < 64 := by unfold dig; split <;> (try split) <;> omega
theorem two_pow_le {i j : Nat} (h : i ≤ j) : (2 : Int) ^ i ≤ 2 ^ j := by
 have := Nat.pow_le_pow_right (n := 2) (by decide) h
 exact_mod_cast this
theorem wrap_mask (n : Int) (h0 : 0 ≤ n) (h1 : n ≤ 64) : IntKind.u64.wrap (IntKind.u64.wrap (2 ^ n.toNat) - 1) = mask n := by
 by_cases e : n = 64
 · subst e; decide
 have h := two_pow_le (show n.toNat ≤ 63 by omega)
 have e : (2 : Int) ^ 63 = 9223372036854775808 := by decide
 have p : (0 : Int) < 2 ^ n.toNat := Int.pow_pos (by decide)
 unfold mask; rw [if_neg (by omega), if_neg (by omega), IntKind.wrap_u64, IntKind.wrap_u64]
 omega
theorem wrap_mask_top (n : Int) (h0 : 64 ≤ n) : IntKind.u64.wrap (IntKind.u64.wrap 18446744073709551616 - 1) = mask n := by
 unfold mask; rw [if_neg (by omega), if_pos h0, IntKind.wrap_u64, IntKind.wrap_u64]; decide
theorem and63 (x : Int) (h0 : 0 ≤ x) (h1 : x < 18446744073709551616) : bits BinOp.and IntKind.u64 x 63 = x % 64 := by
 rw [u64_and _ _ h0 h1 (by omega) (by omega)]; show ((x.toNat &&& 63 : Nat) : Int) = _; rw [nat_mask6]; omega
theorem div_pow_nonneg (n : Int) (i : Nat) (h0 : 0 ≤ n) : 0 ≤ n / 2 ^ i := Int.ediv_nonneg h0 (Int.le_of_lt (Int.pow_pos (by decide)))
theorem div_pow_lt (n : Int) (i : Nat) (h0 : 0 ≤ n) (h1 : n < 18446744073709551616) : n / 2 ^ i < 18446744073709551616 :=
 Int.lt_of_le_of_lt (Int.ediv_le_self _ h0) h1
theorem wrap64_small (x : Int) (h0 : 0 ≤ x) (h1 : x < 64) : Go.RowKit.wrap64 x = x := by unfold Go.RowKit.wrap64; omega
theorem digit_top (n l : Int) (h0 : 0 ≤ n) (h1 : n < 18446744073709551616) (hl : 8 ≤ l) : Go.RowKit.wrap64 (bits BinOp.and IntKind.u64 (n / 281474976710656) 63) = dig n l := by
 rw [and63 _ (by omega) (by omega), wrap64_small _ (by omega) (by omega)]; unfold dig; rw [if_neg (by omega), if_pos hl, pw8]
theorem digit_low (n l : Int) (h0 : 0 ≤ n) (h1 : n < 18446744073709551616) (l0 : 0 ≤ l) (hl : l ≤ 8) : Go.RowKit.wrap64 (bits BinOp.and IntKind.u64 (n / 2 ^ (6 * l).toNat) 63) = dig n l := by
 rw [and63 _ (div_pow_nonneg _ _ h0) (div_pow_lt _ _ h0 h1), wrap64_small _ (by omega) (by omega)]; unfold dig
 rw [if_neg (by omega)]
 have e : (6 * l).toNat = 6 * l.toNat := by omega
 rw [e, ← pw_two]
 split
 · obtain rfl : l = 8 := by omega
   rfl
 · rfl
theorem nat_above (n j : Nat) (hn : n < 2 ^ 64) (hj : j ≤ 64) : n &&& (18446744073709551615 - (2 ^ j - 1)) = n / 2 ^ j * 2 ^ j := by
 have hp : 2 ^ j ≤ 2 ^ 64 := Nat.pow_le_pow_right (by decide) hj
 have hp0 : 0 < 2 ^ j := Nat.two_pow_pos j
 have e : 18446744073709551615 - (2 ^ j - 1) = 2 ^ 64 - ((2 ^ j - 1) + 1) := by
  have : (2 : Nat) ^ 64 = 18446744073709551616 := by decide
  omega
 rw [e]
 apply Nat.eq_of_testBit_eq
 intro i
 rw [Nat.testBit_and, Nat.testBit_two_pow_sub_succ (by omega), Nat.testBit_two_pow_sub_one, Nat.mul_comm, Nat.testBit_two_pow_mul, Nat.testBit_div_two_pow]
 by_cases hi : i < j
 · have : ¬ j ≤ i := by omega
   simp [hi, this]
 · have hji : j ≤ i := by omega
   by_cases h64 : i < 64
   · simp [hi, hji, h64, Nat.sub_add_cancel hji]
   · have : n.testBit i = false := Nat.testBit_lt_two_pow (Nat.lt_of_lt_of_le hn (Nat.pow_le_pow_right (by decide) (by omega)))
     simp [this, hji, h64, Nat.sub_add_cancel hji]
theorem cast_two_pow (k : Nat) : ((2 ^ k : Nat) : Int) = 2 ^ k := by push_cast; rfl
theorem above_mask (n : Int) (j : Nat) (h0 : 0 ≤ n) (h1 : n < 18446744073709551616) (hj : j ≤ 63) : bits BinOp.andNot IntKind.u64 n (2 ^ j - 1) = n / 2 ^ j * 2 ^ j := by
 have p : (0 : Int) < 2 ^ j := Int.pow_pos (by decide)
 have q := two_pow_le hj
 have e : (2 : Int) ^ 63 = 9223372036854775808 := by decide
 rw [u64_andNot _ _ h0 h1 (by omega) (by omega)]
 obtain ⟨m, rfl⟩ := Int.eq_ofNat_of_zero_le h0
 have t : ((2 : Int) ^ j - 1).toNat = 2 ^ j - 1 := by
  have := cast_two_pow j; have := Nat.two_pow_pos j; omega
 have h64 : (2 : Nat) ^ 64 = 18446744073709551616 := by decide
 rw [t, Int.toNat_natCast, nat_above m j (by omega) (by omega)]
 push_cast; rfl
theorem i64_and63 (d : Int) : bits BinOp.and IntKind.i64 d 63 = d % 64 := by
 have m : (BitVec.ofInt 64 63).toNat = 2 ^ 6 - 1 := by decide
 have key : (BitVec.ofInt 64 d &&& BitVec.ofInt 64 63).toNat = (d % ((2 ^ 64 : Nat) : Int)).toNat % 2 ^ 6 := by
  rw [BitVec.toNat_and, BitVec.toNat_ofInt, m, Nat.and_two_pow_sub_one_eq_mod]
 show IntKind.i64.wrap ((BitVec.ofInt 64 d &&& BitVec.ofInt 64 63).toNat : Nat) = d % 64
 rw [key, IntKind.wrap_i64]
 omega
theorem pw_two' (l : Int) (h : 0 ≤ l) : (2 : Int) ^ (6 * l).toNat = pw l.toNat := by
 rw [pw_two, show (6 * l).toNat = 6 * l.toNat from by omega]
theorem with_code (n l d : Int) (h0 : 0 ≤ n) (h1 : n < 18446744073709551616) (l0 : 0 ≤ l) (l1 : l < 8) :
 bits BinOp.or IntKind.u64 (bits BinOp.andNot IntKind.u64 n (mask (6 * l + 6))) (IntKind.u64.wrap (IntKind.u64.wrap (bits BinOp.and IntKind.i64 d 63) * 2 ^ (6 * l).toNat)) = withd n l d := by
 have em : mask (6 * l + 6) = 2 ^ (6 * (l.toNat + 1)) - 1 := by
  unfold mask; rw [if_neg (by omega), if_neg (by omega), show (6 * l + 6).toNat = 6 * (l.toNat + 1) from by omega]
 have hu := pw_le (show l.toNat ≤ 7 + 1 by omega)
 have hu7 : pw l.toNat ≤ 4398046511104 := by
  have h2 : ∀ k : Fin 8, pw k.1 ≤ 4398046511104 := by decide
  exact h2 ⟨l.toNat, by omega⟩
 have hp := pw_pos l.toNat
 have hs := pw_succ l.toNat
 have hv : pw (l.toNat + 1) ≤ 281474976710656 := pw_le (by omega)
 have hb : 0 ≤ d % 64 * pw l.toNat := Int.mul_nonneg (by omega) (by omega)
 have hc : d % 64 * pw l.toNat < pw (l.toNat + 1) := by
  rw [hs, Int.mul_comm (pw l.toNat)]; exact Int.mul_lt_mul_of_pos_right (by omega) (by omega)
 have hd0 : 0 ≤ n / pw (l.toNat + 1) * pw (l.toNat + 1) := Int.mul_nonneg (Int.ediv_nonneg h0 (by omega)) (by omega)
 have hd1 : n / pw (l.toNat + 1) * pw (l.toNat + 1) ≤ n := Int.ediv_mul_le _ (by omega)
 rw [em, above_mask n _ h0 h1 (by omega), ← pw_two, i64_and63, pw_two' l l0]
 rw [show IntKind.u64.wrap (d % 64) = d % 64 from by rw [IntKind.wrap_u64]; omega, show IntKind.u64.wrap (d % 64 * pw l.toNat) = d % 64 * pw l.toNat from by rw [IntKind.wrap_u64]; omega]
 rw [u64_or _ _ hd0 (by omega) hb (by omega)]
 rw [nat_join (6 * (l.toNat + 1)) _ _ ?_ ?_]
 · unfold withd; rw [if_neg (by omega), if_neg (by omega)]; omega
 · have e2 : (2 : Int) ^ (6 * (l.toNat + 1)) = pw (l.toNat + 1) := (pw_two _).symm
   have e3 := cast_two_pow (6 * (l.toNat + 1))
   have e4 : (n / pw (l.toNat + 1) * pw (l.toNat + 1)) % pw (l.toNat + 1) = 0 := Int.mul_emod_left _ _
   have e5 : (((n / pw (l.toNat + 1) * pw (l.toNat + 1)).toNat % 2 ^ (6 * (l.toNat + 1)) : Nat) : Int) = 0 := by
    rw [Int.natCast_emod, e3, e2, Int.toNat_of_nonneg hd0, e4]
   exact_mod_cast e5
 · have e2 : (2 : Int) ^ (6 * (l.toNat + 1)) = pw (l.toNat + 1) := (pw_two _).symm
   have e3 := cast_two_pow (6 * (l.toNat + 1))
   omega
theorem dig_digr (n : Int) (k : Nat) (h : k < 8) : dig n (k : Int) = digr n k := by
 unfold dig digr; rw [if_neg (by omega), if_neg (by omega), if_neg (by omega), Int.toNat_natCast]
theorem pq_pw {k : Nat} (h : k ≤ 8) : pq k = pw k := by
 have hk : k = 0 ∨ k = 1 ∨ k = 2 ∨ k = 3 ∨ k = 4 ∨ k = 5 ∨ k = 6 ∨ k = 7 ∨ k = 8 := by omega
 rcases hk with rfl | rfl | rfl | rfl | rfl | rfl | rfl | rfl | rfl <;> decide
def noLv (b d : Int) (k : Nat) : Prop := ∀ j, j < k → ¬ b / pw j / 64 = d / pw j / 64
theorem noLv.next {b d : Int} {k : Nat} (h : noLv b d k) (hk : ¬ b / pw k / 64 = d / pw k / 64) : noLv b d (k + 1) := fun j hj => by
 by_cases e : j = k
 · rw [e]; exact hk
 · exact h j (by omega)
theorem noLv.no {b d : Int} {n k : Nat} (h : noLv b d n) (hk : k < n) (h8 : k < 8) : ¬ b / (pq k * 64) = d / (pq k * 64) := fun e => by
 refine h k hk ?_
 rw [← pq_pw (by omega)]
 have hk2 : k = 0 ∨ k = 1 ∨ k = 2 ∨ k = 3 ∨ k = 4 ∨ k = 5 ∨ k = 6 ∨ k = 7 := by omega
 rcases hk2 with rfl | rfl | rfl | rfl | rfl | rfl | rfl | rfl <;> simp only [pq] at e ⊢ <;> omega
theorem yes_lv {b d : Int} {k : Nat} (h8 : k < 8) (he : b / pw k / 64 = d / pw k / 64) : b / (pq k * 64) = d / (pq k * 64) := by
 rw [← pq_pw (by omega)] at he
 have hk2 : k = 0 ∨ k = 1 ∨ k = 2 ∨ k = 3 ∨ k = 4 ∨ k = 5 ∨ k = 6 ∨ k = 7 := by omega
 rcases hk2 with rfl | rfl | rfl | rfl | rfl | rfl | rfl | rfl <;> simp only [pq] at he ⊢ <;> omega
theorem noLv.at {b d : Int} {k : Nat} (h : noLv b d k) (hk : k < 8) (he : b / pw k / 64 = d / pw k / 64) : lv b d = k := by
 have hk2 : k = 0 ∨ k = 1 ∨ k = 2 ∨ k = 3 ∨ k = 4 ∨ k = 5 ∨ k = 6 ∨ k = 7 := by omega
 have y := yes_lv hk he
 clear he
 unfold lv
 rcases hk2 with rfl | rfl | rfl | rfl | rfl | rfl | rfl | rfl
 · rw [if_pos (show b / 64 = d / 64 by simp only [pq, Int.reduceMul] at y; exact y)]
 · rw [if_neg (show ¬ b / 64 = d / 64 by have := h.no (k := 0) (by decide) (by decide); simp only [pq, Int.reduceMul] at this; exact this), if_pos (show b / 4096 = d / 4096 by simp only [pq, Int.reduceMul] at y; exact y)]
 · rw [if_neg (show ¬ b / 64 = d / 64 by have := h.no (k := 0) (by decide) (by decide); simp only [pq, Int.reduceMul] at this; exact this), if_neg (show ¬ b / 4096 = d / 4096 by have := h.no (k := 1) (by decide) (by decide); simp only [pq, Int.reduceMul] at this; exact this), if_pos (show b / 262144 = d / 262144 by simp only [pq, Int.reduceMul] at y; exact y)]
 · rw [if_neg (show ¬ b / 64 = d / 64 by have := h.no (k := 0) (by decide) (by decide); simp only [pq, Int.reduceMul] at this; exact this), if_neg (show ¬ b / 4096 = d / 4096 by have := h.no (k := 1) (by decide) (by decide); simp only [pq, Int.reduceMul] at this; exact this), if_neg (show ¬ b / 262144 = d / 262144 by have := h.no (k := 2) (by decide) (by decide); simp only [pq, Int.reduceMul] at this; exact this), if_pos (show b / 16777216 = d / 16777216 by simp only [pq, Int.reduceMul] at y; exact y)]
 · rw [if_neg (show ¬ b / 64 = d / 64 by have := h.no (k := 0) (by decide) (by decide); simp only [pq, Int.reduceMul] at this; exact this), if_neg (show ¬ b / 4096 = d / 4096 by have := h.no (k := 1) (by decide) (by decide); simp only [pq, Int.reduceMul] at this; exact this), if_neg (show ¬ b / 262144 = d / 262144 by have := h.no (k := 2) (by decide) (by decide); simp only [pq, Int.reduceMul] at this; exact this), if_neg (show ¬ b / 16777216 = d / 16777216 by have := h.no (k := 3) (by decide) (by decide); simp only [pq, Int.reduceMul] at this; exact this), if_pos (show b / 1073741824 = d / 1073741824 by simp only [pq, Int.reduceMul] at y; exact y)]
 · rw [if_neg (show ¬ b / 64 = d / 64 by have := h.no (k := 0) (by decide) (by decide); simp only [pq, Int.reduceMul] at this; exact this), if_neg (show ¬ b / 4096 = d / 4096 by have := h.no (k := 1) (by decide) (by decide); simp only [pq, Int.reduceMul] at this; exact this), if_neg (show ¬ b / 262144 = d / 262144 by have := h.no (k := 2) (by decide) (by decide); simp only [pq, Int.reduceMul] at this; exact this), if_neg (show ¬ b / 16777216 = d / 16777216 by have := h.no (k := 3) (by decide) (by decide); simp only [pq, Int.reduceMul] at this; exact this), if_neg (show ¬ b / 1073741824 = d / 1073741824 by have := h.no (k := 4) (by decide) (by decide); simp only [pq, Int.reduceMul] at this; exact this), if_pos (show b / 68719476736 = d / 68719476736 by simp only [pq, Int.reduceMul] at y; exact y)]
 · rw [if_neg (show ¬ b / 64 = d / 64 by have := h.no (k := 0) (by decide) (by decide); simp only [pq, Int.reduceMul] at this; exact this), if_neg (show ¬ b / 4096 = d / 4096 by have := h.no (k := 1) (by decide) (by decide); simp only [pq, Int.reduceMul] at this; exact this), if_neg (show ¬ b / 262144 = d / 262144 by have := h.no (k := 2) (by decide) (by decide); simp only [pq, Int.reduceMul] at this; exact this), if_neg (show ¬ b / 16777216 = d / 16777216 by have := h.no (k := 3) (by decide) (by decide); simp only [pq, Int.reduceMul] at this; exact this), if_neg (show ¬ b / 1073741824 = d / 1073741824 by have := h.no (k := 4) (by decide) (by decide); simp only [pq, Int.reduceMul] at this; exact this), if_neg (show ¬ b / 68719476736 = d / 68719476736 by have := h.no (k := 5) (by decide) (by decide); simp only [pq, Int.reduceMul] at this; exact this), if_pos (show b / 4398046511104 = d / 4398046511104 by simp only [pq, Int.reduceMul] at y; exact y)]
 · rw [if_neg (show ¬ b / 64 = d / 64 by have := h.no (k := 0) (by decide) (by decide); simp only [pq, Int.reduceMul] at this; exact this), if_neg (show ¬ b / 4096 = d / 4096 by have := h.no (k := 1) (by decide) (by decide); simp only [pq, Int.reduceMul] at this; exact this), if_neg (show ¬ b / 262144 = d / 262144 by have := h.no (k := 2) (by decide) (by decide); simp only [pq, Int.reduceMul] at this; exact this), if_neg (show ¬ b / 16777216 = d / 16777216 by have := h.no (k := 3) (by decide) (by decide); simp only [pq, Int.reduceMul] at this; exact this), if_neg (show ¬ b / 1073741824 = d / 1073741824 by have := h.no (k := 4) (by decide) (by decide); simp only [pq, Int.reduceMul] at this; exact this), if_neg (show ¬ b / 68719476736 = d / 68719476736 by have := h.no (k := 5) (by decide) (by decide); simp only [pq, Int.reduceMul] at this; exact this), if_neg (show ¬ b / 4398046511104 = d / 4398046511104 by have := h.no (k := 6) (by decide) (by decide); simp only [pq, Int.reduceMul] at this; exact this), if_pos (show b / 281474976710656 = d / 281474976710656 by simp only [pq, Int.reduceMul] at y; exact y)]
theorem noLv.all {b d : Int} (h : noLv b d 8) : lv b d = 8 := by
 unfold lv
 rw [if_neg (show ¬ b / 64 = d / 64 by have := h.no (k := 0) (by decide) (by decide); simp only [pq, Int.reduceMul] at this; exact this), if_neg (show ¬ b / 4096 = d / 4096 by have := h.no (k := 1) (by decide) (by decide); simp only [pq, Int.reduceMul] at this; exact this), if_neg (show ¬ b / 262144 = d / 262144 by have := h.no (k := 2) (by decide) (by decide); simp only [pq, Int.reduceMul] at this; exact this), if_neg (show ¬ b / 16777216 = d / 16777216 by have := h.no (k := 3) (by decide) (by decide); simp only [pq, Int.reduceMul] at this; exact this), if_neg (show ¬ b / 1073741824 = d / 1073741824 by have := h.no (k := 4) (by decide) (by decide); simp only [pq, Int.reduceMul] at this; exact this), if_neg (show ¬ b / 68719476736 = d / 68719476736 by have := h.no (k := 5) (by decide) (by decide); simp only [pq, Int.reduceMul] at this; exact this), if_neg (show ¬ b / 4398046511104 = d / 4398046511104 by have := h.no (k := 6) (by decide) (by decide); simp only [pq, Int.reduceMul] at this; exact this), if_neg (show ¬ b / 281474976710656 = d / 281474976710656 by have := h.no (k := 7) (by decide) (by decide); simp only [pq, Int.reduceMul] at this; exact this)]
theorem plc_at {b d : Int} {k : Nat} (h : ¬ d ≤ b) (hk : k < 8) (he : lv b d = k) : plc b d = ((k : Int), d / pw k % 64) := by
 unfold plc
 rw [if_neg h, he, if_neg (by omega), pq_pw (by omega)]
theorem plc_far {b d : Int} (h : ¬ d ≤ b) (he : lv b d = 8) : plc b d = (8, 0) := by
 unfold plc
 rw [if_neg h, he, if_pos rfl]
theorem plc_late {b d : Int} (h : d ≤ b) : plc b d = (-1, 0) := if_pos h
end Go.Proofs.Ytappnidimnhndaa.B
namespace Go.Proofs.Ytappnidimnhndaa.B
set_option linter.unusedVariables false
set_option linter.unusedSimpArgs false
open Go.ChangeShapes Go.WideShapes Go.RowKit
theorem Mask (n : Int) (w : World) (h0 : -9223372036854775808 ≤ n) (h1 : n < 9223372036854775808) :
 Calls Try.prog 23 #[.int .i64 n] w fun e w' => e = .returned (.int .u64 (mask n)) ∧ w = w' := by
 by_cases a : n < 0
 · go_enter Try.func23, Try.ntmps23
   go_wp2
   go_ret
   exact ⟨ret_int (by unfold mask; rw [if_pos a]), rfl⟩
 · by_cases b : 64 < n
   · go_enter Try.func23, Try.ntmps23
     go_wp2
     go_ret
     exact ⟨ret_int (wrap_mask_top n (by omega)), rfl⟩
   · go_enter Try.func23, Try.ntmps23
     go_wp2
     go_ret
     exact ⟨ret_int (wrap_mask n (by omega) (by omega)), rfl⟩
theorem Add (a b : Int) (w : World) (h0 : 0 ≤ a) (h1 : a < 18446744073709551616) (l0 : 0 ≤ b) (l1 : b < 18446744073709551616) :
 Calls Try.prog 22 #[.int .u64 a, .int .u64 b] w fun e w' => e = .returned (.int .u64 (addS a b)) ∧ w = w' := by
 go_enter Try.func22, Try.ntmps22
 go_wp2
 all_goals (go_ret; exact ⟨ret_int (by unfold addS; first | rw [if_pos (by assumption)] | rw [if_neg (by omega)]), rfl⟩)
theorem Digit (n l : Int) (w : World) (h0 : 0 ≤ n) (h1 : n < 18446744073709551616) (l0 : -9223372036854775808 ≤ l) (l1 : l < 9223372036854775808) :
 Calls Try.prog 17 #[.int .u64 n, .int .i64 l] w fun e w' => e = .returned (.int .i64 (dig n l)) ∧ w = w' := by
 by_cases a : l < 0
 · go_enter Try.func17, Try.ntmps17
   go_wp2
   go_ret
   exact ⟨ret_int (by unfold dig; rw [if_pos a]), rfl⟩
 · by_cases b : 8 < l
   · go_enter Try.func17, Try.ntmps17
     go_wp2
     go_ret
     exact ⟨ret_int (digit_top n l h0 h1 (by omega)), rfl⟩
   · go_enter Try.func17, Try.ntmps17
     go_wp2
     go_ret
     exact ⟨ret_int (digit_low n l h0 h1 (by omega) (by omega)), rfl⟩
theorem With (n l d : Int) (w : World) (h0 : 0 ≤ n) (h1 : n < 18446744073709551616) (l0 : -9223372036854775808 ≤ l) (l1 : l < 9223372036854775808) (d0 : -9223372036854775808 ≤ d) (d1 : d < 9223372036854775808) :
 Calls Try.prog 24 #[.int .u64 n, .int .i64 l, .int .i64 d] w fun e w' => e = .returned (.int .u64 (withd n l d)) ∧ w = w' := by
 by_cases a : l < 0
 · go_enter Try.func24, Try.ntmps24
   go_wp2_with fail
   go_ret
   exact ⟨ret_int (by unfold withd; rw [if_pos (by omega)]), rfl⟩
 · by_cases b : 8 ≤ l
   · go_enter Try.func24, Try.ntmps24
     go_wp2_with fail
     go_ret
     exact ⟨ret_int (by unfold withd; rw [if_neg (by omega), if_pos b]), rfl⟩
   · go_enter Try.func24, Try.ntmps24
     go_wp2_with (go_at_call 23; refine (Mask _ _ (by omega) (by omega)).mono ?_; rintro e w' ⟨rfl, rfl⟩)
     go_ret
     exact ⟨ret_int (with_code n l d h0 h1 (by omega) (by omega)), rfl⟩
theorem Split (n : Int) (w : World) (h0 : 0 ≤ n) (h1 : n < 18446744073709551616)  :
 Calls Try.prog 21 #[ .int .u64 n] w fun e w' => e = .returned (.agg #[.int .u64 (dig n 0), .int .u64 (dig n 1), .int .u64 (dig n 2), .int .u64 (dig n 3), .int .u64 (dig n 4), .int .u64 (dig n 5), .int .u64 (dig n 6), .int .u64 (dig n 7), .int .u64 (n / 281474976710656)]) ∧ Below w.heap.size w w' := by
 have a0 := dig_nonneg n 0
 have a1 := dig_nonneg n 1
 have a2 := dig_nonneg n 2
 have a3 := dig_nonneg n 3
 have a4 := dig_nonneg n 4
 have a5 := dig_nonneg n 5
 have a6 := dig_nonneg n 6
 have a7 := dig_nonneg n 7
 have b0 := dig_lt n 0
 have b1 := dig_lt n 1
 have b2 := dig_lt n 2
 have b3 := dig_lt n 3
 have b4 := dig_lt n 4
 have b5 := dig_lt n 5
 have b6 := dig_lt n 6
 have b7 := dig_lt n 7
 go_enter Try.func21, Try.ntmps21
 go_wp2_with fail
 refine wp_loop_rounds 9 ?_
 iterate 9
  rw [rounds_succ]
  go_wp2_with (go_at_call 17; refine (Digit _ _ _ (by omega) (by omega) (by omega) (by omega)).mono ?_; rintro e w' ⟨rfl, rfl⟩)
 refine bodyPost_ret (v := .agg #[.int .u64 (dig n 0), .int .u64 (dig n 1), .int .u64 (dig n 2), .int .u64 (dig n 3), .int .u64 (dig n 4), .int .u64 (dig n 5), .int .u64 (dig n 6), .int .u64 (dig n 7), .int .u64 (n / 281474976710656)]) (by simp [results, Try.results21, go_sem]) rfl ⟨rfl, ?_⟩
 exact ((Below.refl _ _).alloc (Nat.le_refl _) _).alloc (by simp) _
def eqs (xs ys : List Int) : Bool := xs == ys
theorem eqItems_ints {P : Program} (d : Nat) (e : TypeId) (k : IntKind) (he : P.underlying e = some (.int k)) (xs ys : List Int) (w : World) : ∀ is : List Nat, (∀ i ∈ is, i < xs.length ∧ i < ys.length) →
 (Op.eqItems (d + 1) e 1 (xs.map (Value.int k)).toArray (ys.map (Value.int k)).toArray is).run P w = .ok (is.all fun i => xs.getD i 0 == ys.getD i 0) w := by
 intro is
 induction is with
 | nil => intro _; simp [Op.eqItems]
 | cons i is ih =>
   intro h
   obtain ⟨hx, hy⟩ := h i (by simp)
   have px : (part e (xs.map (Value.int k)).toArray (i * 1)).run P w = .ok (.int k (xs.getD i 0)) w := by
    simp [part, isAgg, run_underlying he, List.getD, List.getElem?_eq_getElem hx]
   have py : (part e (ys.map (Value.int k)).toArray (i * 1)).run P w = .ok (.int k (ys.getD i 0)) w := by
    simp [part, isAgg, run_underlying he, List.getD, List.getElem?_eq_getElem hy]
   simp only [Op.eqItems, Sem.run_bind, px, py, run_equalIn_int w d e k k _ _ he, Result.andThen_ok, List.all_cons]
   cases hb : (xs.getD i 0 == ys.getD i 0)
   · simp
   · simp only [Bool.not_true, Bool.false_eq_true, if_false, Bool.true_and]
     exact ih fun j hj => h j (by simp [hj])
theorem all_range (xs ys : List Int) (h : xs.length = ys.length) : ((List.range xs.length).all fun i => xs.getD i 0 == ys.getD i 0) = eqs xs ys := by
 unfold eqs
 rw [Bool.eq_iff_iff, List.all_eq_true, beq_iff_eq]
 constructor
 · intro hh
   apply List.ext_getElem h
   intro i h1 h2
   have := hh i (by simp [h1])
   simpa [List.getD, List.getElem?_eq_getElem h1, List.getElem?_eq_getElem h2] using this
 · rintro rfl i _; simp
end Go.Proofs.Ytappnidimnhndaa.B
