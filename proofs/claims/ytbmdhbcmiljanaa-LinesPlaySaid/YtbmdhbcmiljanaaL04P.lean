/- The law LinesPlay: whatever a controller is asked. -/
import Derived.Test.YtbmdhbcmiljanaaLRef2
import Derived.Test.YtbmdhbcmiljanaaL04
import Derived.Test.YtbmdhbcmiljanaaBPlain2
import Derived.Deep.Cut
namespace Go.Proofs.Ytbmdhbcmiljanaa.B
set_option linter.unusedVariables false
set_option linter.unusedSimpArgs false
open Go.ChangeShapes Go.WideShapes Go.RowKit Go.Sort
theorem ob_bit (h : Int) (h0 : 0 ≤ h) (h1 : h < 4294967296) : ob (bit h) 32 = h := by
  obtain ⟨b0, b1⟩ := ob_bounds (bit h) 32 (by omega)
  refine same_bits b0 b1 h0 h1 fun i hi => ?_
  unfold ob
  rw [bit_ofBits, decide_eq_true hi, Bool.true_and]
/-- The document's controller, of these words. -/
def lw (h m : Int) : List Value := lcs (bit h) (bit m)
theorem rWordB (h : Int) (w : World) (h0 : 0 ≤ h) (h1 : h < 4294967296) :
    Calls Try.prog 24 #[.agg (bl (bit h) 32).toArray] w fun e w' => e = .returned (.int .u32 h) ∧ Below w.heap.size w w' := by
  have := rWord (bit h) w; rw [ob_bit h h0 h1] at this; exact this
theorem rLeastB (h m : Int) (w : World) :
    Calls Try.prog 27 #[.agg (lcs (bit h) (bit m)).toArray] w fun e w' => e = .returned (.int .i64 (least (lm h m))) ∧ Below w.heap.size w w' := rLeast (bit h) (bit m) w
set_option maxRecDepth 100000 in
set_option maxHeartbeats 1600000 in
theorem lAlike (h m : Int) (p : Nat) (w : World) (a : LAt w p h m) (h0 : 0 ≤ h) (h1 : h < 4294967296) (m0 : 0 ≤ m) (m1 : m < 4294967296) :
    Calls Try.prog 16 #[.pointer (some ⟨p, 0, none⟩), .agg (lcs (bit h) (bit m)).toArray] w fun e w' => e = .returned (.bool true) ∧ Below w.heap.size w w' := by
  go_enter Try.func16, Try.ntmps16
  have hz1 := self_eq h
  have A : LAt (w.alloc (.cells (lcs (bit h) (bit m)).toArray 27)) p h m := a.below (trA (tr0 w) _)
  have hB := blk_new w (.cells (lcs (bit h) (bit m)).toArray 27)
  have hb : Below w.heap.size w (w.alloc (.cells (lcs (bit h) (bit m)).toArray 27)) := trA (tr0 w) _
  go_wp2_with fail
  generalize (w.alloc (.cells (lcs (bit h) (bit m)).toArray 27)) = W at *
  obtain ⟨L, hL⟩ : ∃ L, least (lm h m) = L := ⟨_, rfl⟩
  have HL := Lib.hid hL
  have hz2 := self_eq L
  have CL := Lib.hid (show ∀ w', LAt w' p h m → Calls Try.prog 20 #[.pointer (some ⟨p, 0, none⟩)] w' fun e w'' => e = .returned (.int .i64 L) ∧ Below w'.heap.size w' w'' from fun w' a' => by
    have := lLeast h m p w' a' h0 h1 m0 m1
    rw [hL] at this; exact this)
  have CR := Lib.hid (show ∀ w', Calls Try.prog 27 #[.agg (lcs (bit h) (bit m)).toArray] w' fun e w'' => e = .returned (.int .i64 L) ∧ Below w'.heap.size w' w'' from fun w' => by
    have := rLeastB h m w'
    rw [hL] at this; exact this)
  have CO := Lib.hid (show ∀ w', LAt w' p h m → Calls Try.prog 19 #[.pointer (some ⟨p, 0, none⟩)] w' fun e w'' => e = .returned (.bool (decide (0 ≤ L))) ∧ Below w'.heap.size w' w'' from fun w' a' => by
    have := lOut h m p w' a' h0 h1 m0 m1
    unfold outB at this
    rw [hL] at this; exact this)
  have HB := Lib.hid hB
  clear a hB hL
  by_cases hL0 : 0 ≤ L
  all_goals
    refine wp_region_quiet_below (by kernel_rfl) (by kernel_rfl) ?_
    repeat (first
      | go_big_quiet_skip
      | (go_big_quiet_want; first
          | (refine qload25 (.tmp 7) rfl _ _ rfl (bit h) (grown_block HB.out) (lcs_partL _ _) ?_; go_simp; go_big_quiet_on)
          | (refine qload27 (.tmp 3) rfl _ rfl (bit h) (bit m) (grown_block HB.out) ?_; go_simp; go_big_quiet_on)
          | (go_big_quiet_op; first
              | go_big_quiet_on
              | go_big_quiet_call (first
                  | (go_at_call 21; exact Calls.regrown_of ((lHigh h m _ _ (A.below (below_regrown W _ _))).mono fun _ _ g => ⟨g.1, g.2 ▸ tr0 _⟩))
                  | (go_at_call 24; exact Calls.regrown_of (rWordB h _ h0 h1))
                  | (go_at_call 20; exact Calls.regrown_of (CL.out _ (A.below (below_regrown W _ _))))
                  | (go_at_call 27; exact Calls.regrown_of (CR.out _))
                  | (go_at_call 19; exact Calls.regrown_of (CO.out _ (A.below (below_regrown W _ _))))))))
    refine wpQuiet_nil ?_
    intro _ hw'
    obtain ⟨⟨dq, osq⟩, hw''⟩ := hw'
    subst hw''
    go_wp2_with fail
    go_ret
    exact ⟨rfl, trG hb _ _⟩
/-- The document's controller's block. -/
def RAt (w : World) (b : Nat) (f g : Nat → Bool) : Prop := w.heap[b]? = some (.cells (lcs f g).toArray 27 (0, 0))
theorem bit_none : bit 0 = fun _ => false := by funext i; exact bit_zero i
theorem zeros27b : (#[.bool false, .bool false, .bool false, .bool false, .bool false, .bool false, .bool false, .bool false, .bool false, .bool false, .bool false, .bool false, .bool false, .bool false, .bool false, .bool false, .bool false, .bool false, .bool false, .bool false, .bool false, .bool false, .bool false, .bool false, .bool false, .bool false, .bool false, .bool false, .bool false, .bool false, .bool false, .bool false, .bool false, .bool false, .bool false, .bool false, .bool false, .bool false, .bool false, .bool false, .bool false, .bool false, .bool false, .bool false, .bool false, .bool false, .bool false, .bool false, .bool false, .bool false, .bool false, .bool false, .bool false, .bool false, .bool false, .bool false, .bool false, .bool false, .bool false, .bool false, .bool false, .bool false, .bool false, .bool false] : Array Value) = (lcs (bit 0) (bit 0)).toArray := by rw [bit_none]; exact zeros27
theorem apart_types {w : World} {b c : Nat} {x y : Array Value} {t u : TypeId} {f g : Nat × Nat} (h : w.heap[b]? = some (.cells x t f)) (k : w.heap[c]? = some (.cells y u g)) (hne : (t == u) = false) : b ≠ c := by
  rintro rfl
  rw [h] at k
  cases k
  simp at hne
theorem RAt.congr {w : World} {b : Nat} {f g f' g' : Nat → Bool} (h : RAt w b f g) (hf : ∀ i, i < 32 → f i = f' i) (hg : ∀ i, i < 32 → g i = g' i) : RAt w b f' g' := by
  unfold RAt lcs at *
  rw [bl_congr f' f 32 fun i hi => (hf i hi).symm, bl_congr g' g 32 fun i hi => (hg i hi).symm]; exact h
theorem RAt.lt {w : World} {b : Nat} {f g : Nat → Bool} (h : RAt w b f g) : b < w.heap.size := lt_of_block h
theorem RAt.below {w w' : World} {b : Nat} {f g : Nat → Bool} (h : RAt w b f g) (hb : Below w.heap.size w w') : RAt w' b f g := blk_below hb h h.lt
theorem RAt.ne {w : World} {b p : Nat} {f g : Nat → Bool} {h m : Int} (r : RAt w b f g) (a : LAt w p h m) : b ≠ p := by
  exact apart_types r a rfl
theorem lcs_put (f g : Nat → Bool) (k : Nat) (B : Bool) (hk : k < 32) : (lcs f g).toArray.setIfInBounds k (.bool B) = (lcs (fun i => if i = k then B else f i) g).toArray := by
  rw [set_arr]
  unfold lcs
  rw [List.set_append_left _ _ (by rw [bl_len]; exact hk), bl_set]
theorem RAt.put {w : World} {b : Nat} {f g : Nat → Bool} (h : RAt w b f g) (k : Nat) (B : Bool) (hk : k < 32) : RAt (w.setCell ⟨b, k, none⟩ (.bool B)) b (fun i => if i = k then B else f i) g := by
  unfold RAt
  rw [blk_set h, lcs_put f g k B hk]
theorem RAt.other {w : World} {b : Nat} {f g : Nat → Bool} (h : RAt w b f g) (p j : Nat) (v : Value) (hne : b ≠ p) : RAt (w.setCell ⟨p, j, none⟩ v) b f g := blk_else h p j v hne
theorem LAt.other {w : World} {p : Nat} {h m : Int} (a : LAt w p h m) (b j : Nat) (v : Value) (hne : p ≠ b) : LAt (w.setCell ⟨b, j, none⟩ v) p h m := blk_else a b j v hne
theorem LAt.row {w : World} {p : Nat} {h m : Int} (a : LAt w p h m) (b : Nat) (cs : Array Value) (hne : p ≠ b) : LAt (w.setRow b cs) p h m := row_else b cs a hne
theorem LAt.alloc {w : World} {p : Nat} {h m : Int} (a : LAt w p h m) (o : Obj) : LAt (w.alloc o) p h m := (blk_old w o a.lt).trans a
theorem RAt.alloc {w : World} {b : Nat} {f g : Nat → Bool} (h : RAt w b f g) (o : Obj) : RAt (w.alloc o) b f g := (blk_old w o h.lt).trans h
theorem RAt.left {w : World} {b : Nat} {f g : Nat → Bool} (h : RAt w b f g) (f' : Nat → Bool) : RAt (w.setRow b (spliced (lcs f g).toArray 0 (bl f' 32))) b f' g := by
  rw [lcs_setL]; exact row_set _ h
theorem RAt.right {w : World} {b : Nat} {f g : Nat → Bool} (h : RAt w b f g) (g' : Nat → Bool) : RAt (w.setRow b (spliced (lcs f g).toArray 32 (bl g' 32))) b f g' := by
  rw [lcs_setR]; exact row_set _ h
theorem val_same (h m o : Int) (h0 : 0 ≤ h) (h1 : h < 4294967296) (m0 : 0 ≤ m) (m1 : m < 4294967296) : rVal (bit h) (bit m) o = lVal h m o := by
  unfold rVal lVal
  rw [ob_bit h h0 h1, ob_bit m m0 m1]
  obtain ⟨b0, b1⟩ := and_bounds h m h0 h1 m0 m1
  have : ob (fun i => bit h i && bit m i) 32 = bits BinOp.and IntKind.u32 h m := by
    obtain ⟨c0, c1⟩ := ob_bounds (fun i => bit h i && bit m i) 32 (by omega)
    refine same_bits c0 c1 b0 b1 fun i hi => ?_
    unfold ob
    rw [bit_ofBits, decide_eq_true hi, Bool.true_and, bit_and h m i h0 h1 m0 m1]
  rw [this]
/-- An act: kind, line, high or not, offset, word. -/
structure ActV where
  kind : Int
  n : Int
  high : Bool
  off : Int
  v : Int
def ActV.fit (a : ActV) : Prop := (-9223372036854775808 ≤ a.kind ∧ a.kind < 9223372036854775808) ∧ (-9223372036854775808 ≤ a.n ∧ a.n < 9223372036854775808) ∧ (0 ≤ a.off ∧ a.off < 4294967296) ∧ (0 ≤ a.v ∧ a.v < 4294967296)
def ActV.cell (a : ActV) : Nat → Value
  | 0 => .int .i64 a.kind
  | 1 => .int .i64 a.n
  | 2 => .bool a.high
  | 3 => .int .u32 a.off
  | _ => .int .u32 a.v
set_option maxRecDepth 100000 in
set_option maxHeartbeats 3200000 in
theorem linesPlay (w : World) (bs off len cap : Nat) (zs : Nat → ActV) (hl : len ≤ cap) (hm : cap ≤ maxLen) (hb : bs < w.heap.size) (hz : ∀ i, i < cap → (∀ j, j < 5 → w.cell? ⟨bs, off + (i * 5 + j), none⟩ = some ((zs i).cell j)) ∧ (zs i).fit) :
    Calls Try.prog 3 #[.slice (some ⟨bs, off, none⟩) len cap] w
      fun e w' => e = .returned (.bool true) ∧ Below w.heap.size w w' := by
  unfold maxLen at hm
  go_enter Try.func3, Try.ntmps3
  have HZ := Lib.hid hz
  clear hz
  go_wp2_with fail
  refine (lNew _).mono ?_
  rintro e w1 ⟨rfl, rfl⟩
  go_wp2_with fail
  rw [zeros27b]
  have A : LAt ((w.alloc (.cells #[.int .u32 0, .int .u32 0] 55)).alloc (.cells (lcs (bit 0) (bit 0)).toArray 27)) w.heap.size 0 0 := b2_0 w _ _
  have R : RAt ((w.alloc (.cells #[.int .u32 0, .int .u32 0] 55)).alloc (.cells (lcs (bit 0) (bit 0)).toArray 27)) (w.heap.size + 1) (bit 0) (bit 0) := b2_1 w _ _
  have hbw := trA (trA (tr0 w) (.cells #[.int .u32 0, .int .u32 0] 55)) (.cells (lcs (bit 0) (bit 0)).toArray 27)
  generalize ((w.alloc (.cells #[.int .u32 0, .int .u32 0] 55)).alloc (.cells (lcs (bit 0) (bit 0)).toArray 27)) = W at *
  go_loopw [3, 5] (fun l i wr => ∃ (k p : Nat) (h m : Int), k ≤ len ∧ k ≤ 60 ∧ i = .int .i64 k ∧ l = .pointer (some ⟨p, 0, none⟩) ∧ LAt wr p h m ∧ RAt wr (w.heap.size + 1) (bit h) (bit m) ∧ (0 ≤ h ∧ h < 4294967296) ∧ (0 ≤ m ∧ m < 4294967296) ∧ Below w.heap.size w wr ∧ w.heap.size ≤ p) (fun _ i _ => 60 - (intOf i).toNat)
  case atStart => exact ⟨0, _, 0, 0, by omega, by omega, rfl, rfl, A, R, by omega, by omega, hbw, by omega⟩
  case round =>
    clear A R hbw
    obtain ⟨k, p, h, m, hk, hk60, rfl, rfl, A, R, ⟨h0, h1⟩, ⟨m0, m1⟩, hbw, hp⟩ := hrel
    by_cases hlt : k < len ∧ k < 60
    · obtain ⟨hlt, h60⟩ := hlt
      obtain ⟨hzk, ⟨k0, k1⟩, ⟨n0, n1⟩, ⟨o0, o1⟩, ⟨v0, v1⟩⟩ := HZ.out k (by omega)
      have hc : ∀ j, j < 5 → wr.cell? ⟨bs, off + (k * 5 + j), none⟩ = some ((zs k).cell j) := fun j hj => by
        rw [hbw.cell (by simpa using hb)]; exact hzk j hj
      have c0 : wr.cell? ⟨bs, off + k * 5, none⟩ = some ((zs k).cell 0) := hc 0 (by omega)
      have c1 : wr.cell? ⟨bs, off + k * 5 + 1, none⟩ = some ((zs k).cell 1) := hc 1 (by omega)
      have c2 : wr.cell? ⟨bs, off + k * 5 + 2, none⟩ = some ((zs k).cell 2) := hc 2 (by omega)
      have c3 : wr.cell? ⟨bs, off + k * 5 + 3, none⟩ = some ((zs k).cell 3) := hc 3 (by omega)
      have c4 : wr.cell? ⟨bs, off + k * 5 + 4, none⟩ = some ((zs k).cell 4) := hc 4 (by omega)
      clear hc hzk
      generalize zs k = a at *
      obtain ⟨K, n, B, o, v⟩ := a
      simp only [ActV.cell] at c0 c1 c2 c3 c4 k0 k1 n0 n1 o0 o1 v0 v1
      have hA := A.lt
      have HA := Lib.hid A
      have HR := Lib.hid R
      clear A R
      go_upto_region 7 with (fail)
      have A := (HA.out).alloc (.cells #[.int .i64 K, .int .i64 n, .bool B, .int .u32 o, .int .u32 v] 30)
      have R := (HR.out).alloc (.cells #[.int .i64 K, .int .i64 n, .bool B, .int .u32 o, .int .u32 v] 30)
      have X := blk_new wr (.cells #[.int .i64 K, .int .i64 n, .bool B, .int .u32 o, .int .u32 v] 30)
      have hrs : w.heap.size ≤ wr.heap.size := hbw.size
      have hbw := trA hbw (.cells #[.int .i64 K, .int .i64 n, .bool B, .int .u32 o, .int .u32 v] 30)
      clear c0 c1 c2 c3 c4 HA HR
      generalize (wr.alloc (.cells #[.int .i64 K, .int .i64 n, .bool B, .int .u32 o, .int .u32 v] 30)) = W1 at *
      generalize wr.heap.size = x at *
      have x0 := blk_cell X 0
      have x1 := blk_cell X 1
      have x2 := blk_cell X 2
      have x3 := blk_cell X 3
      have x4 := blk_cell X 4
      simp only [List.getElem?_toArray, List.getElem?_cons_zero, List.getElem?_cons_succ] at x0 x1 x2 x3 x4
      have hpb := R.ne A
      have hK : K = 0 ∨ K = 1 ∨ K = 2 ∨ K = 3 ∨ K = 4 ∨ K = 5 ∨ ((K == 0) = false ∧ (K == 1) = false ∧ (K == 2) = false ∧ (K == 3) = false ∧ (K == 4) = false ∧ (K == 5) = false) := by simp; omega
      have HX := Lib.hid X
      clear X
      rcases hK with rfl | rfl | rfl | rfl | rfl | rfl | ⟨q0, q1, q2, q3, q4, q5⟩
      · by_cases hn : 0 ≤ n ∧ n < 32
        · obtain ⟨N, rfl⟩ : ∃ N : Nat, n = (N : Int) := ⟨n.toNat, by omega⟩
          have hN : N < 32 := by omega
          have cN := lcs_cellL R N hN
          have fN := blk_free R N
          go_upto_region 12 with (fail)
          have A1 := A.other (w.heap.size + 1) N (.bool B) (fun e => hpb e.symm)
          have R1 := R.put N B hN
          have hb1 := hbw.setCell (p := ⟨w.heap.size + 1, N, none⟩) (by simp) (.bool B)
          have X1 := blk_else HX.out (w.heap.size + 1) N (.bool B) (apart_types HX.out R rfl)
          clear A R hbw x0 x1 x2 x3 x4 cN fN HX
          generalize W1.setCell ⟨w.heap.size + 1, N, none⟩ (.bool B) = W2 at *
          have x1 := blk_cell X1 1
          have x2 := blk_cell X1 2
          simp only [List.getElem?_toArray, List.getElem?_cons_zero, List.getElem?_cons_succ] at x1 x2
          clear X1
          go_wp2_with fail
          refine (lSet h m N B _ _ A1 h0 h1 (by omega) (by omega)).mono ?_
          rintro e w1 ⟨rfl, rfl⟩
          have A := A1.set0 (put h N 1 (tk B))
          have R := (R1.other p 0 (.int .u32 (put h N 1 (tk B))) hpb).congr (f' := bit (put h N 1 (tk B))) (g' := bit m) (fun i hi => by rw [bit_put_one h N B hN h0 i hi]) (fun i _ => rfl)
          have hbw := hb1.setCell (p := ⟨p, 0, none⟩) hp (.int .u32 (put h N 1 (tk B)))
          obtain ⟨g0, g1⟩ := put_bounds h (N : Int) 1 (tk B) h0 h1
          clear A1 R1 hb1 x1 x2
          generalize W2.setCell ⟨p, 0, none⟩ (.int .u32 (put h N 1 (tk B))) = W3 at *
          generalize put h N 1 (tk B) = h' at *
          go_wp2_with (refine load27g (.tmp 4) rfl rfl _ rfl _ _ R ?_)
          refine (lAlike _ _ _ _ A g0 g1 m0 m1).mono ?_
          rintro e Wz ⟨rfl, hz⟩
          have A' := Lib.hid (A.below hz)
          have R' := Lib.hid (R.below hz)
          have hbz := tr hbw hz
          clear A R hbw hz
          go_wp2_with fail
          go_roundw
          case rel => exact ⟨k + 1, _, _, _, by omega, by omega, by go_num, rfl, A'.out, R'.out, ⟨g0, g1⟩, ⟨m0, m1⟩, hbz, hp⟩
          case measure => simp [intOf]; omega
        · have hn' : n < 0 ∨ 32 ≤ n := by omega
          have hd : (decide (0 ≤ n) && decide (n < 32)) = false := by simp; omega
          clear hn
          rcases hn' with hn | hn
          all_goals
            go_wp2_with fail
            refine (lSetNo _ _ _ _ (by omega)).mono ?_
            rintro e w1 ⟨rfl, rfl⟩
            clear x0 x1 x2 x3 x4
            go_wp2_with (refine load27g (.tmp 4) rfl rfl _ rfl _ _ R ?_)
            refine (lAlike _ _ _ _ A h0 h1 m0 m1).mono ?_
            rintro e Wz ⟨rfl, hz⟩
            have A' := Lib.hid (A.below hz)
            have R' := Lib.hid (R.below hz)
            have hbz := tr hbw hz
            clear A R hbw hz
            go_wp2_with fail
            go_roundw
            case rel => exact ⟨k + 1, _, _, _, by omega, by omega, by go_num, rfl, A'.out, R'.out, ⟨h0, h1⟩, ⟨m0, m1⟩, hbz, hp⟩
            case measure => simp [intOf]; omega
      · go_wp2_with fail
        refine (lAll _ _ v _ _ A).mono ?_
        rintro e w1 ⟨rfl, rfl⟩
        have A1 := A.set0 v
        have R1 := R.other p 0 (.int .u32 v) hpb
        have hb1 := hbw.setCell (p := ⟨p, 0, none⟩) hp (.int .u32 v)
        have X1 := blk_else HX.out p 0 (.int .u32 v) (apart_types HX.out A rfl)
        clear A R hbw x0 x1 x2 x3 x4 HX
        generalize W1.setCell ⟨p, 0, none⟩ (.int .u32 v) = W2 at *
        have x4 := blk_cell X1 4
        simp only [List.getElem?_toArray, List.getElem?_cons_zero, List.getElem?_cons_succ] at x4
        clear X1
        go_wp2_with fail
        refine (rBits v _ v0 v1).mono ?_
        rintro e W3 ⟨rfl, hz⟩
        have A2 := A1.below hz
        have R2 := R1.below hz
        have hb2 := tr hb1 hz
        clear A1 R1 hb1 hz x4
        have A := A2.row (w.heap.size + 1) (spliced (lcs (bit h) (bit m)).toArray 0 (bl (bit v) 32)) (fun e => hpb e.symm)
        have R := R2.left (bit v)
        have hbw := below_setRow hb2 (spliced (lcs (bit h) (bit m)).toArray 0 (bl (bit v) 32)) (g := w.heap.size + 1) (by simp)
        have HA := Lib.hid A
        have HR := Lib.hid R
        clear A R
        go_upto_region 37 with (refine store25 rfl (.tmp 66) (.tmp 65) rfl _ _ rfl (bit v) rfl R2 (by simp [lcs_len]) ?_)
        have A := HA.out
        have R := HR.out
        clear HA HR A2 R2 hb2
        generalize W3.setRow (w.heap.size + 1) (spliced (lcs (bit h) (bit m)).toArray 0 (bl (bit v) 32)) = W4 at *
        go_wp2_with (refine load27g (.tmp 4) rfl rfl _ rfl _ _ R ?_)
        refine (lAlike _ _ _ _ A v0 v1 m0 m1).mono ?_
        rintro e Wz ⟨rfl, hz⟩
        have A' := Lib.hid (A.below hz)
        have R' := Lib.hid (R.below hz)
        have hbz := tr hbw hz
        clear A R hbw hz
        go_wp2_with fail
        go_roundw
        case rel => exact ⟨k + 1, _, _, _, by omega, by omega, by go_num, rfl, A'.out, R'.out, ⟨v0, v1⟩, ⟨m0, m1⟩, hbz, hp⟩
        case measure => simp [intOf]; omega
      · go_wp2_with (refine load27 rfl (.tmp 4) rfl _ rfl _ _ R ?_)
        obtain ⟨V, hV⟩ : ∃ V, lVal h m o = V := ⟨_, rfl⟩
        obtain ⟨E, hE⟩ : ∃ E, lErr o = E := ⟨_, rfl⟩
        have cR := rLoad (bit h) (bit m) o W1 o0 o1
        rw [val_same h m o h0 h1 m0 m1, hV, hE] at cR
        refine cR.mono ?_
        rintro e W2 ⟨rfl, hz⟩
        have A1 := A.below hz
        have R1 := R.below hz
        have X1 := blk_below hz HX.out (lt_of_block HX.out)
        have hb1 := tr hbw hz
        clear A R hbw hz x0 x1 x2 x3 x4 cR HX
        have x3 := blk_cell X1 3
        simp only [List.getElem?_toArray, List.getElem?_cons_zero, List.getElem?_cons_succ] at x3
        have cL := lLoad h m o p W2 A1 o0 o1
        rw [hV, hE] at cL
        have CL := Lib.hid cL
        clear cL hV hE X1
        have z0 : (V != V) = false := by simp
        have z1 : (E != E) = false := by simp
        go_wp2_with fail
        refine CL.out.mono ?_
        rintro e W3 ⟨rfl, hz⟩
        have A := A1.below hz
        have R := R1.below hz
        have hbw := tr hb1 hz
        clear A1 R1 hb1 hz x3 CL
        go_wp2_with (refine load27g (.tmp 4) rfl rfl _ rfl _ _ R ?_)
        refine (lAlike _ _ _ _ A h0 h1 m0 m1).mono ?_
        rintro e Wz ⟨rfl, hz⟩
        have A' := Lib.hid (A.below hz)
        have R' := Lib.hid (R.below hz)
        have hbz := tr hbw hz
        clear A R hbw hz
        go_wp2_with fail
        go_roundw
        case rel => exact ⟨k + 1, _, _, _, by omega, by omega, by go_num, rfl, A'.out, R'.out, ⟨h0, h1⟩, ⟨m0, m1⟩, hbz, hp⟩
        case measure => simp [intOf]; omega
      · by_cases h4 : o = 4
        · subst h4
          go_wp2_with (refine load27 rfl (.tmp 4) rfl _ rfl _ _ R ?_)
          refine (rStore4 (bit h) (bit m) v _ v0 v1).mono ?_
          rintro e W2 ⟨rfl, hz⟩
          have A1 := A.below hz
          have R1 := R.below hz
          have X1 := blk_below hz HX.out (lt_of_block HX.out)
          have hb1 := tr hbw hz
          clear A R hbw hz x0 x1 x2 x3 x4 HX
          have hxl := lt_of_block X1
          have hpl := A1.lt
          have hrl := R1.lt
          have hxr : x ≠ w.heap.size + 1 := apart_types X1 R1 rfl
          have A2 : LAt (((W2.alloc (.cells (lcs (fun _ => false) (fun _ => false)).toArray 27)).setRow W2.heap.size (lcs (bit h) (bit v)).toArray).setRow (w.heap.size + 1) (lcs (bit h) (bit v)).toArray) p h m := ((A1.alloc _).row _ _ (by omega)).row _ _ (fun e => hpb e.symm)
          have X2 := row_else (w.heap.size + 1) (lcs (bit h) (bit v)).toArray (row_else W2.heap.size (lcs (bit h) (bit v)).toArray ((blk_old W2 (.cells (lcs (fun _ => false) (fun _ => false)).toArray 27) hxl).trans X1) (by omega)) hxr
          have R2 : RAt (((W2.alloc (.cells (lcs (fun _ => false) (fun _ => false)).toArray 27)).setRow W2.heap.size (lcs (bit h) (bit v)).toArray).setRow (w.heap.size + 1) (lcs (bit h) (bit v)).toArray) (w.heap.size + 1) (bit h) (bit v) := row_set _ (row_else W2.heap.size (lcs (bit h) (bit v)).toArray (R1.alloc (.cells (lcs (fun _ => false) (fun _ => false)).toArray 27)) (by omega))
          have hb2 := below_setRow (below_setRow (trA hb1 (.cells (lcs (fun _ => false) (fun _ => false)).toArray 27)) (lcs (bit h) (bit v)).toArray (g := W2.heap.size) hb1.size) (lcs (bit h) (bit v)).toArray (g := w.heap.size + 1) (by simp)
          have r1 := row_else W2.heap.size (lcs (bit h) (bit v)).toArray (R1.alloc (.cells (lcs (fun _ => false) (fun _ => false)).toArray 27)) (by omega)
          have HR := Lib.hid r1
          have HA2 := Lib.hid A2
          have HR2 := Lib.hid R2
          have HX2 := Lib.hid X2
          clear r1 A1 R1 X1 A2 R2 X2
          go_upto_region 25 with (first | (refine store27 rfl (.tmp 12) (.tmp 100) rfl _ rfl (bit h) (bit v) rfl (blk_new _ _) (by rfl) ?_) | (refine load27 rfl (.tmp 12) rfl _ rfl (bit h) (bit v) (row_set _ (blk_new _ _)) ?_) | (refine store27 rfl (.tmp 4) (.tmp 102) rfl _ rfl (bit h) (bit v) rfl HR.out (by simp [lcs_len]) ?_))
          rw [zeros27]
          clear HR
          have A1 := HA2.out
          have R := HR2.out
          have X1 := HX2.out
          generalize (((W2.alloc (.cells (lcs (fun _ => false) (fun _ => false)).toArray 27)).setRow W2.heap.size (lcs (bit h) (bit v)).toArray).setRow (w.heap.size + 1) (lcs (bit h) (bit v)).toArray) = W3 at *
          clear HA2 HR2 HX2
          have x3 := blk_cell X1 3
          have x4 := blk_cell X1 4
          simp only [List.getElem?_toArray, List.getElem?_cons_zero, List.getElem?_cons_succ] at x3 x4
          clear X1
          go_wp2_with fail
          refine (lStore h m v _ _ A1).mono ?_
          rintro e w1 ⟨rfl, rfl⟩
          have A2 := A1.set1 v
          have R2 := R.other p 1 (.int .u32 v) hpb
          have hbw := hb2.setCell (p := ⟨p, 1, none⟩) hp (.int .u32 v)
          clear A1 R hb2 x3 x4
          have A := A2
          have R := R2
          clear A2 R2
          generalize W3.setCell ⟨p, 1, none⟩ (.int .u32 v) = W4 at *
          go_wp2_with (refine load27g (.tmp 4) rfl rfl _ rfl _ _ R ?_)
          refine (lAlike _ _ _ _ A h0 h1 v0 v1).mono ?_
          rintro e Wz ⟨rfl, hz⟩
          have A' := Lib.hid (A.below hz)
          have R' := Lib.hid (R.below hz)
          have hbz := tr hbw hz
          clear A R hbw hz
          go_wp2_with fail
          go_roundw
          case rel => exact ⟨k + 1, _, _, _, by omega, by omega, by go_num, rfl, A'.out, R'.out, ⟨h0, h1⟩, ⟨v0, v1⟩, hbz, hp⟩
          case measure => simp [intOf]; omega
        · have HH : True := trivial
          go_wp2_with (refine load27 rfl (.tmp 4) rfl _ rfl _ _ R ?_)
          obtain ⟨E, hE⟩ : ∃ E, sErr o = E := ⟨_, rfl⟩
          have cR := rStoreNo (bit h) (bit m) o v W1 o0 o1 h4
          rw [hE] at cR
          refine cR.mono ?_
          rintro e W2 ⟨rfl, hz⟩
          have A1 := A.below hz
          have R1 := R.below hz
          have X1 := blk_below hz HX.out (lt_of_block HX.out)
          have hb1 := tr hbw hz
          clear A R hbw hz x0 x1 x2 x3 x4 HX cR
          have hxl := lt_of_block X1
          have hpl := A1.lt
          have hrl := R1.lt
          have hxr : x ≠ w.heap.size + 1 := apart_types X1 R1 rfl
          have A2 : LAt (((W2.alloc (.cells (lcs (fun _ => false) (fun _ => false)).toArray 27)).setRow W2.heap.size (lcs (bit h) (bit m)).toArray).setRow (w.heap.size + 1) (lcs (bit h) (bit m)).toArray) p h m := ((A1.alloc _).row _ _ (by omega)).row _ _ (fun e => hpb e.symm)
          have X2 := row_else (w.heap.size + 1) (lcs (bit h) (bit m)).toArray (row_else W2.heap.size (lcs (bit h) (bit m)).toArray ((blk_old W2 (.cells (lcs (fun _ => false) (fun _ => false)).toArray 27) hxl).trans X1) (by omega)) hxr
          have R2 : RAt (((W2.alloc (.cells (lcs (fun _ => false) (fun _ => false)).toArray 27)).setRow W2.heap.size (lcs (bit h) (bit m)).toArray).setRow (w.heap.size + 1) (lcs (bit h) (bit m)).toArray) (w.heap.size + 1) (bit h) (bit m) := row_set _ (row_else W2.heap.size (lcs (bit h) (bit m)).toArray (R1.alloc (.cells (lcs (fun _ => false) (fun _ => false)).toArray 27)) (by omega))
          have hb2 := below_setRow (below_setRow (trA hb1 (.cells (lcs (fun _ => false) (fun _ => false)).toArray 27)) (lcs (bit h) (bit m)).toArray (g := W2.heap.size) hb1.size) (lcs (bit h) (bit m)).toArray (g := w.heap.size + 1) (by simp)
          have r1 := row_else W2.heap.size (lcs (bit h) (bit m)).toArray (R1.alloc (.cells (lcs (fun _ => false) (fun _ => false)).toArray 27)) (by omega)
          have HR := Lib.hid r1
          have HA2 := Lib.hid A2
          have HR2 := Lib.hid R2
          have HX2 := Lib.hid X2
          clear r1 A1 R1 X1 A2 R2 X2
          go_upto_region 25 with (first | (refine store27 rfl (.tmp 12) (.tmp 100) rfl _ rfl (bit h) (bit m) rfl (blk_new _ _) (by rfl) ?_) | (refine load27 rfl (.tmp 12) rfl _ rfl (bit h) (bit m) (row_set _ (blk_new _ _)) ?_) | (refine store27 rfl (.tmp 4) (.tmp 102) rfl _ rfl (bit h) (bit m) rfl HR.out (by simp [lcs_len]) ?_))
          rw [zeros27]
          clear HR
          have A1 := HA2.out
          have R := HR2.out
          have X1 := HX2.out
          generalize (((W2.alloc (.cells (lcs (fun _ => false) (fun _ => false)).toArray 27)).setRow W2.heap.size (lcs (bit h) (bit m)).toArray).setRow (w.heap.size + 1) (lcs (bit h) (bit m)).toArray) = W3 at *
          clear HA2 HR2 HX2
          have x3 := blk_cell X1 3
          have x4 := blk_cell X1 4
          simp only [List.getElem?_toArray, List.getElem?_cons_zero, List.getElem?_cons_succ] at x3 x4
          have cL := lStoreNo h m o v p W3 A1 o0 o1 h4
          rw [hE] at cL
          have CL := Lib.hid cL
          clear cL hE X1
          have z1 : (E != E) = false := by simp
          have n4 : (o == 4) = false := by simpa using h4
          go_wp2_with fail
          refine CL.out.mono ?_
          rintro e w1 ⟨rfl, rfl⟩
          clear CL x3 x4
          have A := A1
          have hbw := hb2
          clear A1 hb2
          go_wp2_with (refine load27g (.tmp 4) rfl rfl _ rfl _ _ R ?_)
          refine (lAlike _ _ _ _ A h0 h1 m0 m1).mono ?_
          rintro e Wz ⟨rfl, hz⟩
          have A' := Lib.hid (A.below hz)
          have R' := Lib.hid (R.below hz)
          have hbz := tr hbw hz
          clear A R hbw hz
          go_wp2_with fail
          go_roundw
          case rel => exact ⟨k + 1, _, _, _, by omega, by omega, by go_num, rfl, A'.out, R'.out, ⟨h0, h1⟩, ⟨m0, m1⟩, hbz, hp⟩
          case measure => simp [intOf]; omega
      · go_wp2_with fail
        refine (lReset _ _ _ _ A).mono ?_
        rintro e w1 ⟨rfl, rfl⟩
        have A1 := A.set1 0
        have R1 := R.other p 1 (.int .u32 0) hpb
        have hb1 := hbw.setCell (p := ⟨p, 1, none⟩) hp (.int .u32 0)
        clear A R hbw x0 x1 x2 x3 x4 HX
        generalize W1.setCell ⟨p, 1, none⟩ (.int .u32 0) = W2 at *
        have A := A1.row (w.heap.size + 1) (spliced (lcs (bit h) (bit m)).toArray 32 (bl (fun _ => false) 32)) (fun e => hpb e.symm)
        have R := (R1.right (fun _ => false)).congr (f' := bit h) (g' := bit 0) (fun _ _ => rfl) (fun i _ => (bit_zero i).symm)
        have hbw := below_setRow hb1 (spliced (lcs (bit h) (bit m)).toArray 32 (bl (fun _ => false) 32)) (g := w.heap.size + 1) (by simp)
        have HA := Lib.hid A
        have HR := Lib.hid R
        clear A R
        go_upto_region 37 with (refine store25 rfl (.tmp 116) (.tmp 115) rfl _ _ rfl (fun _ => false) rfl R1 (by simp [lcs_len]) ?_)
        have A := HA.out
        have R := HR.out
        clear HA HR A1 R1 hb1
        generalize W2.setRow (w.heap.size + 1) (spliced (lcs (bit h) (bit m)).toArray 32 (bl (fun _ => false) 32)) = W4 at *
        go_wp2_with (refine load27g (.tmp 4) rfl rfl _ rfl _ _ R ?_)
        refine (lAlike _ _ _ _ A h0 h1 (by omega) (by omega)).mono ?_
        rintro e Wz ⟨rfl, hz⟩
        have A' := Lib.hid (A.below hz)
        have R' := Lib.hid (R.below hz)
        have hbz := tr hbw hz
        clear A R hbw hz
        go_wp2_with fail
        go_roundw
        case rel => exact ⟨k + 1, _, _, _, by omega, by omega, by go_num, rfl, A'.out, R'.out, ⟨h0, h1⟩, ⟨by omega, by omega⟩, hbz, hp⟩
        case measure => simp [intOf]; omega
      · go_wp2_with fail
        refine (lCopy h m _ _ A).mono ?_
        rintro e w1 ⟨rfl, rfl⟩
        have hpl := A.lt
        have A1 := A.alloc (.cells #[.int .u32 h, .int .u32 m] 55)
        have R1 := R.alloc (.cells #[.int .u32 h, .int .u32 m] 55)
        have C1 : LAt (W1.alloc (.cells #[.int .u32 h, .int .u32 m] 55)) W1.heap.size h m := blk_new W1 _
        have hb1 := trA hbw (.cells #[.int .u32 h, .int .u32 m] 55)
        have hcp : w.heap.size ≤ W1.heap.size := hbw.size
        clear A R hbw x0 x1 x2 x3 x4 HX
        generalize W1.alloc (.cells #[.int .u32 h, .int .u32 m] 55) = W2 at *
        generalize W1.heap.size = c at *
        go_wp2_with (refine load27g (.tmp 4) rfl rfl _ rfl _ _ R1 ?_)
        refine (lAlike _ _ _ _ C1 h0 h1 m0 m1).mono ?_
        rintro e W3 ⟨rfl, hz⟩
        have A2 := A1.below hz
        have R2 := R1.below hz
        have C2 := C1.below hz
        have hb2 := tr hb1 hz
        clear A1 R1 C1 hb1 hz
        have hsg : IntKind.u32.signed = false := rfl
        go_wp2_with (refine load27 rfl (.tmp 4) rfl _ rfl _ _ R2 ?_)
        have cw := rLawWord (bit h) (bit m) W3
        rw [ob_bit h h0 h1] at cw
        refine cw.mono ?_
        rintro e W4 ⟨rfl, hz⟩
        have A3 := A2.below hz
        have R3 := R2.below hz
        have C3 := C2.below hz
        have hb3 := tr hb2 hz
        clear A2 R2 C2 hb2 hz cw
        go_wp2_with fail
        generalize bits BinOp.xor IntKind.u32 IntKind.u32.max h = N at *
        refine (lAll h m N _ _ A3).mono ?_
        rintro e w1 ⟨rfl, rfl⟩
        have A4 := A3.set0 N
        have R4 := R3.other p 0 (.int .u32 N) hpb
        have C4 := C3.other p 0 (.int .u32 N) (by omega)
        have hb4 := hb3.setCell (p := ⟨p, 0, none⟩) hp (.int .u32 N)
        clear A3 R3 C3 hb3
        generalize W4.setCell ⟨p, 0, none⟩ (.int .u32 N) = W5 at *
        go_wp2_with fail
        refine (lReset N m _ _ A4).mono ?_
        rintro e w1 ⟨rfl, rfl⟩
        have R := R4.other p 1 (.int .u32 0) hpb
        have A := C4.other p 1 (.int .u32 0) (by omega)
        have hbw := hb4.setCell (p := ⟨p, 1, none⟩) hp (.int .u32 0)
        clear A4 R4 C4 hb4
        generalize W5.setCell ⟨p, 1, none⟩ (.int .u32 0) = W6 at *
        go_wp2_with (refine load27g (.tmp 4) rfl rfl _ rfl _ _ R ?_)
        refine (lAlike _ _ _ _ A h0 h1 m0 m1).mono ?_
        rintro e Wz ⟨rfl, hz⟩
        have A' := Lib.hid (A.below hz)
        have R' := Lib.hid (R.below hz)
        have hbz := tr hbw hz
        clear A R hbw hz
        go_wp2_with fail
        go_roundw
        case rel => exact ⟨k + 1, _, _, _, by omega, by omega, by go_num, rfl, A'.out, R'.out, ⟨h0, h1⟩, ⟨m0, m1⟩, hbz, hcp⟩
        case measure => simp [intOf]; omega
      · have HA := Lib.hid A
        have HR := Lib.hid R
        clear A R
        have A := HA.out
        have R := HR.out
        go_wp2_with (refine load27g (.tmp 4) rfl rfl _ rfl _ _ R ?_)
        refine (lAlike _ _ _ _ A h0 h1 m0 m1).mono ?_
        rintro e Wz ⟨rfl, hz⟩
        have A' := Lib.hid (A.below hz)
        have R' := Lib.hid (R.below hz)
        have hbz := tr hbw hz
        clear A R hbw hz
        go_wp2_with fail
        go_roundw
        case rel => exact ⟨k + 1, _, _, _, by omega, by omega, by go_num, rfl, A'.out, R'.out, ⟨h0, h1⟩, ⟨m0, m1⟩, hbz, hp⟩
        case measure => simp [intOf]; omega
    · clear A R
      by_cases hlt2 : k < len
      all_goals
        go_wp2_with fail
        refine (lKnown _).mono ?_
        rintro e w1 ⟨rfl, hb1⟩
        go_wp2_with fail
        go_ret
        exact ⟨rfl, tr hbw hb1⟩
end Go.Proofs.Ytbmdhbcmiljanaa.B
