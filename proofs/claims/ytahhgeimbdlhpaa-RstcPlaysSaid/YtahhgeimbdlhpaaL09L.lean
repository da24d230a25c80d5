/- The law RstcLast: causes that were latched. -/
import Derived.Test.YtahhgeimbdlhpaaL09
import Derived.Deep.Cut
namespace Go.Proofs.Ytahhgeimbdlhpaa.B
set_option linter.unusedVariables false
set_option linter.unusedSimpArgs false
open Go.ChangeShapes Go.WideShapes Go.RowKit Go.Sort Go.MapKept
theorem or_i64 (a b : Int) (a0 : 0 ≤ a) (a1 : a < 4294967296) (b0 : 0 ≤ b) (b1 : b < 4294967296) : bits BinOp.or IntKind.i64 a b = bits BinOp.or IntKind.u32 a b := by
  rw [or_nat a b a0 a1 b0 b1]
  have key : (BitVec.ofInt 64 a ||| BitVec.ofInt 64 b).toNat = a.toNat ||| b.toNat := by
    rw [BitVec.toNat_or, BitVec.toNat_ofInt, BitVec.toNat_ofInt]
    congr 1 <;> omega
  show IntKind.i64.wrap ((BitVec.ofInt 64 a ||| BitVec.ofInt 64 b).toNat : Nat) = _
  have hl : a.toNat ||| b.toNat < 2 ^ 32 := Nat.or_lt_two_pow (by omega) (by omega)
  rw [key, IntKind.wrap_i64]
  omega
def cs5 : List (Int × Array UInt8) := [(1, #[112, 111, 119, 101, 114]), (2, #[116, 105, 109, 101, 111, 117, 116]), (4, #[101, 97, 114, 108, 121]), (8, #[119, 114, 111, 110, 103]), (16, #[115, 111, 102, 116])]
theorem word_1 (w : World) : Calls Try.prog 18 #[.int .i64 1] w fun e w' => e = .returned (.string ⟨#[112, 111, 119, 101, 114]⟩) ∧ w = w' := rsWord 1 w
theorem word_2 (w : World) : Calls Try.prog 18 #[.int .i64 2] w fun e w' => e = .returned (.string ⟨#[116, 105, 109, 101, 111, 117, 116]⟩) ∧ w = w' := rsWord 2 w
theorem word_4 (w : World) : Calls Try.prog 18 #[.int .i64 4] w fun e w' => e = .returned (.string ⟨#[101, 97, 114, 108, 121]⟩) ∧ w = w' := rsWord 4 w
theorem word_8 (w : World) : Calls Try.prog 18 #[.int .i64 8] w fun e w' => e = .returned (.string ⟨#[119, 114, 111, 110, 103]⟩) ∧ w = w' := rsWord 8 w
theorem word_16 (w : World) : Calls Try.prog 18 #[.int .i64 16] w fun e w' => e = .returned (.string ⟨#[115, 111, 102, 116]⟩) ∧ w = w' := rsWord 16 w
theorem word_3 (w : World) : Calls Try.prog 18 #[.int .i64 3] w fun e w' => e = .returned (.string ⟨#[]⟩) ∧ w = w' := rsWord 3 w
theorem word_no (c : Int) (w : World) (h1 : c ≠ 1) (hc : ¬ isC c) : Calls Try.prog 18 #[.int .i64 c] w fun e w' => e = .returned (.string ⟨#[]⟩) ∧ w = w' := by
  have := rsWord c w
  unfold isC at hc
  have hw : wrd c = ⟨#[]⟩ := by unfold wrd; rw [if_neg h1, if_neg (by omega), if_neg (by omega), if_neg (by omega), if_neg (by omega)]
  rw [hw] at this; exact this
set_option maxRecDepth 100000 in
set_option maxHeartbeats 6400000 in
theorem rstcLast (w : World) (y : Option Addr) (len cap : Nat) (v : Int) (v0 : 0 ≤ v) (v1 : v < 4294967296)
    (hy : len = 0 ∨ ∃ z off, ∃ zs : Nat → Int, y = some ⟨z, off, none⟩ ∧ len ≤ cap ∧ cap ≤ maxLen ∧ z < w.heap.size ∧ ∀ i, i < cap → w.cell? ⟨z, off + i, none⟩ = some (.int .i64 (zs i)) ∧ -9223372036854775808 ≤ zs i ∧ zs i < 9223372036854775808) :
    Calls Try.prog 4 #[.slice y len cap, .int .u32 v] w fun e w' => e = .returned (.bool true) ∧ Below w.heap.size w w' := by
  have HY := Lib.hid hy
  clear hy
  go_enter Try.func4, Try.ntmps4
  go_wp2_with fail
  refine (rsNew w).mono ?_
  rintro e w1 ⟨rfl, A1, B1⟩
  go_wp2_with fail
  refine (rsStore0 rsN v _ _ rsN_ok A1 v0 v1).mono ?_
  rintro e w2 ⟨rfl, A2, ho⟩
  have B2 := off_below9 B1 ho (Nat.le_refl _)
  have T2 := Rs.clr_ok rsN_ok v0 v1
  clear A1 B1 ho
  have hc0 : (rsN.clr v).ct = 0 := rfl
  generalize rsN.clr v = t0 at *
  go_wp2_with fail
  refine (rsCause _ _ _ T2 A2).mono ?_
  rintro e w3 ⟨rfl, hb⟩
  have A3 := A2.below hb
  have B3 := tr B2 hb
  clear A2 B2 hb
  go_wp2_with fail
  go_loopw [6, 7, 8] (fun s n i wr => ∃ (k : Nat) (t : Rs), k ≤ len ∧ k ≤ 30 ∧ i = .int .i64 k ∧ t.ok ∧ t.ct ≤ k ∧ s = .int .i64 t.ca ∧ n = .int .u32 t.ct ∧ SAt wr w.heap.size tS t ∧ Below w.heap.size w wr) (fun _ _ i _ => len - (intOf i).toNat)
  case atStart => exact ⟨0, t0, by omega, by omega, rfl, T2, by omega, rfl, by rw [hc0], A3, B3⟩
  case round =>
    clear A3 B3 T2 hc0
    obtain ⟨k, t, hk, hkl, rfl, ht, htk, rfl, rfl, A, hB⟩ := hrel
    by_cases hlt : k < len ∧ k < 30
    · obtain ⟨hlt, hlm⟩ := hlt
      rcases HY.out with hy | ⟨b, off, zs, rfl, hlc, hcm, hbl, hz⟩
      · omega
      unfold maxLen at hcm
      obtain ⟨c0, z0, z1⟩ := hz k (by omega)
      rw [← hB.cell (p := ⟨b, _, none⟩) (by simpa using hbl)] at c0
      clear hz
      generalize zs k = c at *
      have hbw : b < wr.heap.size := by have := hB.size; omega
      by_cases hC : isC c
      · have hw : ∃ d, (∀ w', Calls Try.prog 18 #[.int .i64 c] w' fun e w'' => e = .returned (.string d) ∧ w' = w'') ∧ (d = ⟨#[116, 105, 109, 101, 111, 117, 116]⟩ ∨ d = ⟨#[101, 97, 114, 108, 121]⟩ ∨ d = ⟨#[119, 114, 111, 110, 103]⟩ ∨ d = ⟨#[115, 111, 102, 116]⟩) := by
          unfold isC at hC
          rcases hC with rfl | rfl | rfl | rfl
          · exact ⟨_, word_2, .inl rfl⟩
          · exact ⟨_, word_4, .inr (.inl rfl)⟩
          · exact ⟨_, word_8, .inr (.inr (.inl rfl))⟩
          · exact ⟨_, word_16, .inr (.inr (.inr rfl))⟩
        obtain ⟨d, hd, hde⟩ := hw
        have HD := Lib.hid hd
        clear hd
        have HDE := Lib.hid hde
        clear hde
        have h2 := isC_bounds hC
        have T1 := Rs.put_ok ht hC
        have e1 : up1 t.ct = t.ct + 1 := by unfold up1; rw [if_pos (by omega)]
        have e2 := or_i64 t.ca c ht.a0 ht.a1 (by omega) (by omega)
        obtain ⟨s, hs⟩ : ∃ s, t.put c = s := ⟨_, rfl⟩
        have ht0 := ht.c0
        have e3 : s.ct = t.ct + 1 := by rw [← hs]; exact e1
        have e4 : s.la = c := by rw [← hs]; rfl
        have e5 : s.ca = bits BinOp.or IntKind.i64 t.ca c := by rw [← hs, e2]; rfl
        have HLt := Lib.hid (rsLatchYes t c w.heap.size wr ht hC A)
        rw [hs] at HLt T1
        have E3 := Lib.hid e3
        have E4 := Lib.hid e4
        have E5 := Lib.hid e5
        have HT := Lib.hid ht
        clear hs e1 e2 e3 e4 e5 ht hC h2
        go_wp2_with fail
        refine (HD.out _).mono ?_
        rintro e w' ⟨rfl, rfl⟩
        go_wp2_with fail
        refine HLt.out.mono ?_
        rintro e W1 ⟨rfl, A1, ho⟩
        have B1 := off_below9 hB ho (Nat.le_refl _)
        have c1 : W1.cell? ⟨b, off + k, none⟩ = some (.int .i64 c) := by rw [ho.cell (p := ⟨b, _, none⟩) (by simpa using hbw) (by simpa using (show b ≠ w.heap.size by omega))]; exact c0
        have hbw1 : b < W1.heap.size := by have := ho.size; omega
        clear c0 A hB ho HLt hbw
        go_upto_region 14 with (fail)
        have HC := Lib.hid (fun w' a => by have := rsCause s w.heap.size w' T1 a; rw [E5.out] at this; exact this)
        have HL := Lib.hid (fun w' a => by have := rsLast s w.heap.size w' T1 a; rw [E4.out] at this; exact this)
        have HN := Lib.hid (fun w' a => by have := rsCount s w.heap.size w' a; rw [E3.out] at this; exact this)
        have hg := gcell
        have hz1 : (c != c) = false := by simp
        have hz2 : (t.ct + 1 != t.ct + 1) = false := by simp
        have hz3 : (bits BinOp.or IntKind.i64 t.ca c != bits BinOp.or IntKind.i64 t.ca c) = false := by simp
        have hde := HDE.out
        clear HDE HD
        rcases hde with rfl | rfl | rfl | rfl
        all_goals
          refine wp_region_quiet_below (by kernel_rfl) (by kernel_rfl) ?_
          repeat (go_big_quiet_step (first
            | (go_at_call 17; exact Calls.regrown_of (HC.out _ (A1.below (below_regrown W1 _ _))))
            | (go_at_call 19; exact Calls.regrown_of (HL.out _ (A1.below (below_regrown W1 _ _))))
            | (go_at_call 20; exact Calls.regrown_of (HN.out _ (A1.below (below_regrown W1 _ _))))))
          refine wpQuiet_nil ?_
          intro _ hw'
          obtain ⟨⟨dq, osq⟩, hw''⟩ := hw'
          subst hw''
          have A2 := A1.below (below_regrown W1 dq osq)
          have B2 := tr B1 (below_regrown W1 dq osq)
          clear A1 B1 hg hz1 hz2 hz3 HC HL HN c1
          dsimp only at A2 B2 ⊢
          generalize grow (redrawn W1 dq) osq = W2 at *
          go_wp2_with fail
          go_roundw
          case rel => exact ⟨k + 1, s, by omega, by omega, by go_num, T1, by rw [E3.out]; omega, by rw [E5.out], by rw [E3.out], A2, B2⟩
          case measure => simp [intOf]; omega
      · have HLt := Lib.hid (rsLatchNo t c w.heap.size wr ht hC A)
        by_cases h1 : c = 1
        · subst h1
          go_wp2_with fail
          refine (word_1 _).mono ?_
          rintro e w' ⟨rfl, rfl⟩
          go_wp2_with fail
          refine HLt.out.mono ?_
          rintro e W1 ⟨rfl, hb⟩
          have A1 := A.below hb
          have B1 := tr hB hb
          clear A hB hb HLt
          go_wp2_with fail
          go_roundw
          case rel => exact ⟨k + 1, t, by omega, by omega, by go_num, ht, by omega, rfl, rfl, A1, B1⟩
          case measure => simp [intOf]; omega
        · have HW := Lib.hid (word_no c wr h1 hC)
          go_wp2_with fail
          refine HW.out.mono ?_
          rintro e w' ⟨rfl, rfl⟩
          go_wp2_with fail
          refine HLt.out.mono ?_
          rintro e W1 ⟨rfl, hb⟩
          have A1 := A.below hb
          have B1 := tr hB hb
          clear A hB hb HLt
          go_wp2_with fail
          go_roundw
          case rel => exact ⟨k + 1, t, by omega, by omega, by go_num, ht, by omega, rfl, rfl, A1, B1⟩
          case measure => simp [intOf]; omega
    · clear A
      by_cases hlt2 : k < len
      all_goals
        go_wp2_with fail
        refine (rsKnown _).mono ?_
        rintro e w1 ⟨rfl, hb1⟩
        go_wp2_with fail
        refine (word_1 _).mono ?_
        rintro e w' ⟨rfl, rfl⟩
        go_wp2_with fail
        refine (word_3 _).mono ?_
        rintro e w' ⟨rfl, rfl⟩
        go_wp2_with fail
        refine (word_16 _).mono ?_
        rintro e w' ⟨rfl, rfl⟩
        go_wp2_with fail
        go_ret
        exact ⟨rfl, tr hB hb1⟩
end Go.Proofs.Ytahhgeimbdlhpaa.B
