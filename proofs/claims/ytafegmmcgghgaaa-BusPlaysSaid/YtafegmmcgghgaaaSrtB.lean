/- slices.Sort at uint32: breakPatterns. -/
import Derived.Test.YtafegmmcgghgaaaSrtQ
import Derived.Test.YtafegmmcgghgaaaSrtLay
import Derived.Sort.Walk7
namespace Go.Proofs.Ytafegmmcgghgaaa.B
set_option linter.unusedVariables false
set_option linter.unusedSimpArgs false
open Go.ChangeShapes Go.WideShapes Go.RowKit Go.Sort
theorem sNext (q X : Nat) (w : World) (hX : X < 18446744073709551616) (hc : w.cell? ⟨q, 0, none⟩ = some (.int .u64 X)) (hf : w.frozen? ⟨q, 0, none⟩ = false) :
    Calls Try.prog 97 #[.pointer (some ⟨q, 0, none⟩)] w fun e w' => e = .returned (.int .u64 (xorNextN X : Nat)) ∧ w' = (w.setCell ⟨q, 0, none⟩ (.int .u64 (xorNextN X : Nat))).drewN 3 :=
  AnyF.xorshift_Next Try.xorNext q 0 X hX w hc hf
theorem sPow (n : Nat) (w : World) (hn : n < 4611686018427387904) :
    Calls Try.prog 96 #[.int .i64 n] w fun e w' => e = .returned (.int .u64 ((1 <<< bitsLen n : Nat) : Int)) ∧ w' = w :=
  AnyF.nextPowerOfTwo Try.nextPow n hn w
set_option maxHeartbeats 6400000 in
theorem sBreak (g n cap a b : Nat) (d : Array Int) (w : World) (h : DAt w g d) (hab : a ≤ b) (hb : b ≤ d.size) (hn : d.size = n) (hc : n ≤ cap) (hm : cap ≤ 9223372036854775807) (hm2 : n < 1152921504606846976) :
    Calls Try.prog 78 #[.slice (some ⟨g, 0, none⟩) n cap, .int .i64 a, .int .i64 b] w
      fun e w' => e = .returned (.tuple #[]) ∧ DAt w' g (breakPatterns d a b) ∧ Off (· = g) w w' := by
  subst hn
  obtain ⟨L, rfl⟩ : ∃ L, b = a + L := ⟨b - a, by omega⟩
  have e1 : (a : Int) + (L : Int) - (a : Int) = (L : Int) := by omega
  by_cases h8 : 8 ≤ L
  · rw [breakPatterns_eq d a L h8]
    obtain ⟨M, hM⟩ : ∃ M : Nat, 1 <<< bitsLen L = M := ⟨_, rfl⟩
    have hM1 : 1 ≤ M := by rw [← hM, Nat.one_shiftLeft]; exact Nat.two_pow_pos _
    have hM2 : M ≤ 2 * L := by rw [← hM, Nat.one_shiftLeft]; exact two_pow_bitsLen_le (by omega)
    have NP := Lib.hid (fun w => by have := sPow L w (by omega); rw [hM] at this; exact this)
    rw [hM]
    clear hM
    obtain ⟨k4, e2⟩ : ∃ k4 : Nat, L / 4 = k4 := ⟨_, rfl⟩
    have e2' : (L : Int) / 4 = (k4 : Int) := by omega
    have e2'' : (L : Int).tdiv 4 = (k4 : Int) := by rw [Int.tdiv_eq_ediv_of_nonneg (by omega)]; omega
    obtain ⟨m2, e3⟩ : ∃ m2 : Nat, (k4 : Int) * 2 = (m2 : Int) := ⟨k4 * 2, by omega⟩
    have e3' : k4 * 2 = m2 := by omega
    obtain ⟨i0, e4⟩ : ∃ i0 : Nat, a + m2 - 1 = i0 := ⟨_, rfl⟩
    have hk1 : 2 ≤ k4 ∧ 4 * k4 ≤ L := by omega
    have e5 : (a : Int) + (m2 : Int) - 1 = (i0 : Int) := by omega
    obtain ⟨R, hR⟩ : ∃ R, bpRest a L M (a + L / 4 * 2 - 1) 3 0 (UInt64.ofNat L, d) = R := ⟨_, rfl⟩
    rw [hR]
    rw [e2, e3', e4] at hR
    have HR := Lib.hid hR
    clear hR
    have hu : (UInt64.ofNat L).toNat = L := by simp; omega
    have hgq : g ≠ w.heap.size := by have := h.lt; omega
    have D0 := h.below (trA (tr0 w) (.cells #[.int .u64 (L : Int)] 154 (0, 0)))
    have O0 : Off (· = g) w (w.alloc (.cells #[.int .u64 (L : Int)] 154 (0, 0))) := Off.ofBelow (trA (tr0 w) _)
    have X0 : (w.alloc (.cells #[.int .u64 (L : Int)] 154 (0, 0))).heap[w.heap.size]? = some (.cells #[.int .u64 (L : Int)] 154 (0, 0)) := blk_new w _
    have H8 := Lib.hid (⟨h8, hM1, hM2, e2, e3', e4, hk1, hu⟩ : 8 ≤ L ∧ 1 ≤ M ∧ M ≤ 2 * L ∧ L / 4 = k4 ∧ k4 * 2 = m2 ∧ a + m2 - 1 = i0 ∧ (2 ≤ k4 ∧ 4 * k4 ≤ L) ∧ (UInt64.ofNat L).toNat = L)
    have h8z : (8 : Int) ≤ (L : Int) := by omega
    have bk : k4 ≤ d.size ∧ m2 ≤ d.size ∧ a ≤ d.size ∧ i0 ≤ d.size ∧ L ≤ d.size := by omega
    have HX0 := Lib.hid X0
    have HD0 := Lib.hid D0
    have HO0 := Lib.hid O0
    clear h h8 hM1 hM2 e2 e2' e3' e4 hk1 hu X0 D0 O0 hab
    go_enter Try.func78, Try.ntmps78
    go_wp2_with fail
    refine (NP.out _).mono ?_
    rintro e w1 ⟨rfl, rfl⟩
    generalize w.alloc (.cells #[.int .u64 (L : Int)] 154 (0, 0)) = W0 at *
    go_wp2_with fail
    go_loopw [9] (fun vi wr => ∃ (t : Nat) (r : UInt64) (dk : Array Int), vi = .int .i64 ((i0 + t : Nat) : Int) ∧ t ≤ 3 ∧ dk.size = d.size ∧ DAt wr g dk ∧ Off (· = g) w wr ∧ wr.heap[w.heap.size]? = some (.cells #[.int .u64 (r.toNat : Int)] 154 (0, 0)) ∧ Hid (bpRest a L M i0 (3 - t) t (r, dk) = R)) (fun vi _ => i0 + 3 - (intOf vi).toNat)
    case atStart => exact ⟨0, UInt64.ofNat L, d, rfl, by omega, rfl, HD0.out, HO0.out, by rw [H8.out.2.2.2.2.2.2.2]; exact HX0.out, HR⟩
    case round =>
      clear HD0 HO0 HX0 HR
      obtain ⟨t, r, dk, rfl, ht, hds, D, O, X, HR⟩ := hrel
      obtain ⟨h8, hM1, hM2, e2, e3', e4, hk1, hu⟩ := H8.out
      by_cases ht3 : t < 3
      · have hle : (((i0 + t : Nat) : Int)) ≤ (a : Int) + (m2 : Int) + 1 := by omega
        obtain ⟨O1, hO1⟩ : ∃ O : Nat, (xorNext r).toNat &&& (M - 1) = O := ⟨_, rfl⟩
        have lO : O1 ≤ M - 1 := by rw [← hO1]; exact Nat.and_le_right
        obtain ⟨X1, hX1⟩ : ∃ X1 : Nat, xorNextN r.toNat = X1 := ⟨_, rfl⟩
        have eX : (xorNext r).toNat = X1 := by rw [xorNext_toNat, hX1]
        have lX : X1 < 18446744073709551616 := by rw [← hX1]; exact xorNextN_lt _ r.toNat_lt
        have eAnd : bits .and .u64 (X1 : Int) ((M : Int) - 1) = (O1 : Int) := by
          rw [show ((M : Int) - 1) = ((M - 1 : Nat) : Int) by omega, bits_and_u64_nat _ _ lX (by omega), ← hO1, eX]
        have cX : wr.cell? ⟨w.heap.size, 0, none⟩ = some (.int .u64 (r.toNat : Int)) := by have := blk_cell X 0; simpa using this
        have fX := blk_free X 0
        have NX := Lib.hid (by have := sNext w.heap.size r.toNat wr r.toNat_lt cX fX; rw [hX1] at this; exact this)
        have D1 := (D.off (off_set wr w.heap.size 0 (.int .u64 (X1 : Nat))) hgq).drewN 3
        have O2 : Off (· = g) w ((wr.setCell ⟨w.heap.size, 0, none⟩ (.int .u64 (X1 : Nat))).drewN 3) := (O.next (off_set wr w.heap.size 0 (.int .u64 (X1 : Nat))) (fun i hi e => by omega)).trans (Off.ofBelow (trN (tr0 _) 3))
        have X2 : ((wr.setCell ⟨w.heap.size, 0, none⟩ (.int .u64 (X1 : Nat))).drewN 3).heap[w.heap.size]? = some (.cells #[.int .u64 ((xorNext r).toNat : Int)] 154 (0, 0)) := by
          rw [eX]; have := blk_set X 0 (.int .u64 (X1 : Nat)); simpa using this
        clear cX fX D O X hX1 eX
        generalize ((wr.setCell ⟨w.heap.size, 0, none⟩ (.int .u64 (X1 : Nat))).drewN 3) = W1 at *
        have HX2 := Lib.hid X2
        have HD1 := Lib.hid D1
        have HO2 := Lib.hid O2
        have HO1 := Lib.hid hO1
        obtain ⟨id, hid⟩ : ∃ id : Nat, i0 + t = id := ⟨_, rfl⟩
        have hid2 : (i0 : Int) + (t : Int) = (id : Int) := by omega
        have hidn : id < dk.size := by omega
        obtain ⟨o, ho⟩ : ∃ o : Nat, (if O1 ≥ L then O1 - L else O1) = o := ⟨_, rfl⟩
        obtain ⟨jx, hjx⟩ : ∃ jx : Nat, a + o = jx := ⟨_, rfl⟩
        have hol : o < L := by rw [← ho]; split <;> omega
        have hjn : jx < dk.size := by omega
        have hjx2 : (a : Int) + (o : Int) = (jx : Int) := by omega
        have HRt := Lib.hid (show bpRest a L M i0 (3 - (t + 1)) (t + 1) (xorNext r, swp dk id jx) = R by rw [← HR.out, bp_step a L M i0 t r dk o ht3 (by rw [HO1.out]; exact ho), hid, hjx])
        have bnd : O1 ≤ 2 * d.size ∧ o ≤ d.size ∧ M ≤ 2 * d.size := by omega
        have hOL : (L ≤ O1 ∧ (O1 : Int) - (L : Int) = (o : Int)) ∨ (¬ L ≤ O1 ∧ O1 = o) := by rw [← ho]; split <;> omega
        have hmm := hM1
        clear X2 D1 O2 hO1 ho hjx hid h8 hM1 hM2 e2 e3' e4 hk1 hu HR lO hol
        rcases hOL with ⟨hLO, eo⟩ | ⟨hLO, rfl⟩
        · have hLz : (L : Int) ≤ (O1 : Int) := by omega
          go_upto_region 10 with (first | (go_at_call 97; refine NX.out.mono ?_; rintro e w' ⟨rfl, rfl⟩))
          rcases Nat.lt_trichotomy id jx with hq | hq | hq
          · have hne : id ≠ jx := by omega
            have hX3 := HX2.out
            have D := HD1.out
            have O := HO2.out
            clear HD1 HO2 HX2
            have c1 := D.c id (by omega)
            have c2 := D.c jx (by omega)
            have f1 := D.f id (by omega)
            have f2 := D.f jx (by omega)
            have HD2 := Lib.hid ((D.swap id jx (by omega) (by omega)).kept (w' := (((w').setCell ⟨g, id, none⟩ (.int .u32 (dk)[jx]!)).setCell ⟨g, jx, none⟩ (.int .u32 (dk)[id]!)).drew) rfl (Nat.le_refl _))
            have HO2 := Lib.hid ((O.trans (off_swap (w') g id jx (.int .u32 (dk)[jx]!) (.int .u32 (dk)[id]!))).trans (off_drew _))
            generalize (dk)[id]! = P1 at c1 c2 HD2 HO2
            generalize (dk)[jx]! = P2 at c1 c2 HD2 HO2
            have HX3 := Lib.hid (blk_else (blk_else hX3 g id (.int .u32 P2) (fun e => hgq e.symm)) g jx (.int .u32 P1) (fun e => hgq e.symm))
            clear D O hX3
            go_wp2_with fail
            go_region
            clear c1 c2 f1 f2
            have D := HD2.out
            have O := HO2.out
            clear HD2 HO2
            have HX4 : Hid (((((w').setCell ⟨g, id, none⟩ (.int .u32 P2)).setCell ⟨g, jx, none⟩ (.int .u32 P1)).drew).heap[w.heap.size]? = _) := Lib.hid HX3.out
            clear HX3
            generalize (((w').setCell ⟨g, id, none⟩ (.int .u32 P2)).setCell ⟨g, jx, none⟩ (.int .u32 P1)).drew = W3 at *
            go_wp2_with fail
            go_roundw
            case rel => exact ⟨t + 1, xorNext r, swp dk id jx, int_of (by omega), by omega, by rw [swp_size]; exact hds, D, O, HX4.out, HRt⟩
            case measure => simp [intOf]; omega
          · subst hq
            have hX3 := HX2.out
            have D := HD1.out
            have O := HO2.out
            clear HD1 HO2 HX2
            have c1 := D.c id (by omega)
            have c2 := D.c id (by omega)
            have f1 := D.f id (by omega)
            have f2 := D.f id (by omega)
            have HD2 := Lib.hid ((D.swap id id (by omega) (by omega)).kept (w' := (((w').setCell ⟨g, id, none⟩ (.int .u32 (dk)[id]!)).setCell ⟨g, id, none⟩ (.int .u32 (dk)[id]!)).drew) rfl (Nat.le_refl _))
            have HO2 := Lib.hid ((O.trans (off_swap (w') g id id (.int .u32 (dk)[id]!) (.int .u32 (dk)[id]!))).trans (off_drew _))
            generalize (dk)[id]! = P1 at c1 c2 HD2 HO2
            have HX3 := Lib.hid (blk_else (blk_else hX3 g id (.int .u32 P1) (fun e => hgq e.symm)) g id (.int .u32 P1) (fun e => hgq e.symm))
            clear D O hX3
            go_wp2_with fail
            go_region
            clear c1 c2 f1 f2
            have D := HD2.out
            have O := HO2.out
            clear HD2 HO2
            have HX4 : Hid (((((w').setCell ⟨g, id, none⟩ (.int .u32 P1)).setCell ⟨g, id, none⟩ (.int .u32 P1)).drew).heap[w.heap.size]? = _) := Lib.hid HX3.out
            clear HX3
            generalize (((w').setCell ⟨g, id, none⟩ (.int .u32 P1)).setCell ⟨g, id, none⟩ (.int .u32 P1)).drew = W3 at *
            go_wp2_with fail
            go_roundw
            case rel => exact ⟨t + 1, xorNext r, swp dk id id, int_of (by omega), by omega, by rw [swp_size]; exact hds, D, O, HX4.out, HRt⟩
            case measure => simp [intOf]; omega
          · have hne : id ≠ jx := by omega
            have hX3 := HX2.out
            have D := HD1.out
            have O := HO2.out
            clear HD1 HO2 HX2
            have c1 := D.c id (by omega)
            have c2 := D.c jx (by omega)
            have f1 := D.f id (by omega)
            have f2 := D.f jx (by omega)
            have HD2 := Lib.hid ((D.swap id jx (by omega) (by omega)).kept (w' := (((w').setCell ⟨g, id, none⟩ (.int .u32 (dk)[jx]!)).setCell ⟨g, jx, none⟩ (.int .u32 (dk)[id]!)).drew) rfl (Nat.le_refl _))
            have HO2 := Lib.hid ((O.trans (off_swap (w') g id jx (.int .u32 (dk)[jx]!) (.int .u32 (dk)[id]!))).trans (off_drew _))
            generalize (dk)[id]! = P1 at c1 c2 HD2 HO2
            generalize (dk)[jx]! = P2 at c1 c2 HD2 HO2
            have HX3 := Lib.hid (blk_else (blk_else hX3 g id (.int .u32 P2) (fun e => hgq e.symm)) g jx (.int .u32 P1) (fun e => hgq e.symm))
            clear D O hX3
            go_wp2_with fail
            go_region
            clear c1 c2 f1 f2
            have D := HD2.out
            have O := HO2.out
            clear HD2 HO2
            have HX4 : Hid (((((w').setCell ⟨g, id, none⟩ (.int .u32 P2)).setCell ⟨g, jx, none⟩ (.int .u32 P1)).drew).heap[w.heap.size]? = _) := Lib.hid HX3.out
            clear HX3
            generalize (((w').setCell ⟨g, id, none⟩ (.int .u32 P2)).setCell ⟨g, jx, none⟩ (.int .u32 P1)).drew = W3 at *
            go_wp2_with fail
            go_roundw
            case rel => exact ⟨t + 1, xorNext r, swp dk id jx, int_of (by omega), by omega, by rw [swp_size]; exact hds, D, O, HX4.out, HRt⟩
            case measure => simp [intOf]; omega
        · have hLz : ¬ (L : Int) ≤ (O1 : Int) := by omega
          go_upto_region 10 with (first | (go_at_call 97; refine NX.out.mono ?_; rintro e w' ⟨rfl, rfl⟩))
          rcases Nat.lt_trichotomy id jx with hq | hq | hq
          · have hne : id ≠ jx := by omega
            have hX3 := HX2.out
            have D := HD1.out
            have O := HO2.out
            clear HD1 HO2 HX2
            have c1 := D.c id (by omega)
            have c2 := D.c jx (by omega)
            have f1 := D.f id (by omega)
            have f2 := D.f jx (by omega)
            have HD2 := Lib.hid ((D.swap id jx (by omega) (by omega)).kept (w' := (((w').setCell ⟨g, id, none⟩ (.int .u32 (dk)[jx]!)).setCell ⟨g, jx, none⟩ (.int .u32 (dk)[id]!)).drew) rfl (Nat.le_refl _))
            have HO2 := Lib.hid ((O.trans (off_swap (w') g id jx (.int .u32 (dk)[jx]!) (.int .u32 (dk)[id]!))).trans (off_drew _))
            generalize (dk)[id]! = P1 at c1 c2 HD2 HO2
            generalize (dk)[jx]! = P2 at c1 c2 HD2 HO2
            have HX3 := Lib.hid (blk_else (blk_else hX3 g id (.int .u32 P2) (fun e => hgq e.symm)) g jx (.int .u32 P1) (fun e => hgq e.symm))
            clear D O hX3
            go_wp2_with fail
            go_region
            clear c1 c2 f1 f2
            have D := HD2.out
            have O := HO2.out
            clear HD2 HO2
            have HX4 : Hid (((((w').setCell ⟨g, id, none⟩ (.int .u32 P2)).setCell ⟨g, jx, none⟩ (.int .u32 P1)).drew).heap[w.heap.size]? = _) := Lib.hid HX3.out
            clear HX3
            generalize (((w').setCell ⟨g, id, none⟩ (.int .u32 P2)).setCell ⟨g, jx, none⟩ (.int .u32 P1)).drew = W3 at *
            go_wp2_with fail
            go_roundw
            case rel => exact ⟨t + 1, xorNext r, swp dk id jx, int_of (by omega), by omega, by rw [swp_size]; exact hds, D, O, HX4.out, HRt⟩
            case measure => simp [intOf]; omega
          · subst hq
            have hX3 := HX2.out
            have D := HD1.out
            have O := HO2.out
            clear HD1 HO2 HX2
            have c1 := D.c id (by omega)
            have c2 := D.c id (by omega)
            have f1 := D.f id (by omega)
            have f2 := D.f id (by omega)
            have HD2 := Lib.hid ((D.swap id id (by omega) (by omega)).kept (w' := (((w').setCell ⟨g, id, none⟩ (.int .u32 (dk)[id]!)).setCell ⟨g, id, none⟩ (.int .u32 (dk)[id]!)).drew) rfl (Nat.le_refl _))
            have HO2 := Lib.hid ((O.trans (off_swap (w') g id id (.int .u32 (dk)[id]!) (.int .u32 (dk)[id]!))).trans (off_drew _))
            generalize (dk)[id]! = P1 at c1 c2 HD2 HO2
            have HX3 := Lib.hid (blk_else (blk_else hX3 g id (.int .u32 P1) (fun e => hgq e.symm)) g id (.int .u32 P1) (fun e => hgq e.symm))
            clear D O hX3
            go_wp2_with fail
            go_region
            clear c1 c2 f1 f2
            have D := HD2.out
            have O := HO2.out
            clear HD2 HO2
            have HX4 : Hid (((((w').setCell ⟨g, id, none⟩ (.int .u32 P1)).setCell ⟨g, id, none⟩ (.int .u32 P1)).drew).heap[w.heap.size]? = _) := Lib.hid HX3.out
            clear HX3
            generalize (((w').setCell ⟨g, id, none⟩ (.int .u32 P1)).setCell ⟨g, id, none⟩ (.int .u32 P1)).drew = W3 at *
            go_wp2_with fail
            go_roundw
            case rel => exact ⟨t + 1, xorNext r, swp dk id id, int_of (by omega), by omega, by rw [swp_size]; exact hds, D, O, HX4.out, HRt⟩
            case measure => simp [intOf]; omega
          · have hne : id ≠ jx := by omega
            have hX3 := HX2.out
            have D := HD1.out
            have O := HO2.out
            clear HD1 HO2 HX2
            have c1 := D.c id (by omega)
            have c2 := D.c jx (by omega)
            have f1 := D.f id (by omega)
            have f2 := D.f jx (by omega)
            have HD2 := Lib.hid ((D.swap id jx (by omega) (by omega)).kept (w' := (((w').setCell ⟨g, id, none⟩ (.int .u32 (dk)[jx]!)).setCell ⟨g, jx, none⟩ (.int .u32 (dk)[id]!)).drew) rfl (Nat.le_refl _))
            have HO2 := Lib.hid ((O.trans (off_swap (w') g id jx (.int .u32 (dk)[jx]!) (.int .u32 (dk)[id]!))).trans (off_drew _))
            generalize (dk)[id]! = P1 at c1 c2 HD2 HO2
            generalize (dk)[jx]! = P2 at c1 c2 HD2 HO2
            have HX3 := Lib.hid (blk_else (blk_else hX3 g id (.int .u32 P2) (fun e => hgq e.symm)) g jx (.int .u32 P1) (fun e => hgq e.symm))
            clear D O hX3
            go_wp2_with fail
            go_region
            clear c1 c2 f1 f2
            have D := HD2.out
            have O := HO2.out
            clear HD2 HO2
            have HX4 : Hid (((((w').setCell ⟨g, id, none⟩ (.int .u32 P2)).setCell ⟨g, jx, none⟩ (.int .u32 P1)).drew).heap[w.heap.size]? = _) := Lib.hid HX3.out
            clear HX3
            generalize (((w').setCell ⟨g, id, none⟩ (.int .u32 P2)).setCell ⟨g, jx, none⟩ (.int .u32 P1)).drew = W3 at *
            go_wp2_with fail
            go_roundw
            case rel => exact ⟨t + 1, xorNext r, swp dk id jx, int_of (by omega), by omega, by rw [swp_size]; exact hds, D, O, HX4.out, HRt⟩
            case measure => simp [intOf]; omega
      · obtain rfl : t = 3 := by omega
        have hle : ¬ (((i0 + 3 : Nat) : Int)) ≤ (a : Int) + (m2 : Int) + 1 := by omega
        have H := Lib.hid D
        have HO := Lib.hid O
        have HX : Hid (dk = R) := Lib.hid HR.out
        clear D O HR X
        go_wp2_with fail
        go_end0
        exact ⟨rfl, by rw [← HX.out]; exact H.out, HO.out⟩
  · have hv : breakPatterns d a (a + L) = d := by unfold breakPatterns; simp only [Nat.add_sub_cancel_left]; rw [if_neg h8]
    rw [hv]
    have h8z : ¬ (8 : Int) ≤ (L : Int) := by omega
    have H := Lib.hid h
    clear h
    go_enter Try.func78, Try.ntmps78
    go_wp2_with fail
    go_end0
    exact ⟨rfl, H.out, Off.refl _ _⟩
end Go.Proofs.Ytafegmmcgghgaaa.B
