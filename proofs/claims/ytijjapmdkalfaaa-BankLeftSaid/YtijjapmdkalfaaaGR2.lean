/- The document's Words and Left of a row of timers. -/
import Derived.Test.YtijjapmdkalfaaaGR
import Derived.Test.YtijjapmdkalfaaaNR4
import Derived.Deep.Cut
namespace Go.Proofs.Ytijjapmdkalfaaa.B
set_option linter.unusedVariables false
set_option linter.unusedSimpArgs false
open Go.ChangeShapes Go.WideShapes Go.RowKit Go.Sort
def fHi (t : Nat → Tm) (i : Nat) : Bool := (t i).st && (t i).iq
def fRn (t : Nat → Tm) (i : Nat) : Bool := (t i).en
theorem un_zero : un 0 = 1 := by decide
set_option maxHeartbeats 1600000 in
theorem gWords {w : World} {g n cap : Nat} {t : Nat → Tm} (h : RwAt w g n cap t) (n8 : n ≤ 8) :
    Calls Try.prog 28 #[.slice (some ⟨g, 0, none⟩) n cap] w fun e w' => e = .returned (.tuple #[.int .u32 (ob (fHi t) n), .int .u32 (ob (fRn t) n)]) ∧ w = w' := by
  have hcm := h.cm
  have hnc := h.nc
  have hgl := h.lt
  unfold maxLen at hcm
  have H := Lib.hid h
  clear h
  go_enter Try.func28, Try.ntmps28
  go_wp2_with fail
  go_loopw [4, 5, 6, 7] (fun a b u i wr => ∃ (k : Nat) (X Y U : Int), k ≤ n ∧ i = .int .i64 k ∧ a = .int .u32 X ∧ b = .int .u32 Y ∧ u = .int .u32 U ∧ 0 ≤ X ∧ X < 4294967296 ∧ 0 ≤ Y ∧ Y < 4294967296 ∧ 0 ≤ U ∧ U < 4294967296 ∧ Hid (X = ob (fHi t) k) ∧ Hid (Y = ob (fRn t) k) ∧ Hid (U = un k) ∧ wr = w) (fun a b u i wr => n - (intOf i).toNat)
  case atStart => exact ⟨0, 0, 0, 1, by omega, rfl, rfl, rfl, rfl, by omega, by omega, by omega, by omega, by omega, by omega, Lib.hid rfl, Lib.hid rfl, Lib.hid un_zero.symm, rfl⟩
  case round =>
    obtain ⟨k, X, Y, U, hk, rfl, rfl, rfl, rfl, X0, X1, Y0, Y1, U0, U1, hX, hY, hU, rfl⟩ := hrel
    by_cases hlt : k < n
    · have c2 := H.out.c hlt 2 _ rfl
      have c4 := H.out.c hlt 4 _ rfl
      have c7 := H.out.c hlt 7 _ rfl
      have bx := ob_un (fHi t) k (by omega)
      have bY := ob_un (fRn t) k (by omega)
      have yx := Lib.hid (fun q => ob_yes (fHi t) k (by omega) q)
      have nx := Lib.hid (fun q => ob_no (fHi t) k q)
      have yy := Lib.hid (fun q => ob_yes (fRn t) k (by omega) q)
      have ny := Lib.hid (fun q => ob_no (fRn t) k q)
      rw [← hX.out, ← hU.out] at bx
      rw [← hY.out, ← hU.out] at bY
      have bu := un_bounds (k + 1)
      have us := Lib.hid (un_succ k)
      rw [un_succ k, ← hU.out] at bu
      have vx : fHi t k = ((t k).st && (t k).iq) := rfl
      have vy : fRn t k = (t k).en := rfl
      generalize (t k).st = s at *
      generalize (t k).iq = q at *
      generalize (t k).en = r at *
      cases r <;> cases s <;> cases q
      all_goals
        have VX := Lib.hid vx
        have VY := Lib.hid vy
        clear vx vy
        go_wp2_with fail
        go_roundw
        case rel =>
          first
          | exact ⟨k + 1, _, _, _, by omega, by go_num, rfl, rfl, rfl, by omega, by omega, by omega, by omega, bu.1, bu.2, Lib.hid (by rw [nx.out VX.out]; exact hX.out), Lib.hid (by rw [ny.out VY.out]; exact hY.out), Lib.hid (by rw [us.out, hU.out]), (by trivial)⟩
          | exact ⟨k + 1, _, _, _, by omega, by go_num, rfl, rfl, rfl, by omega, by omega, by omega, by omega, bu.1, bu.2, Lib.hid (by rw [yx.out VX.out, hX.out, hU.out]), Lib.hid (by rw [ny.out VY.out]; exact hY.out), Lib.hid (by rw [us.out, hU.out]), (by trivial)⟩
          | exact ⟨k + 1, _, _, _, by omega, by go_num, rfl, rfl, rfl, by omega, by omega, by omega, by omega, bu.1, bu.2, Lib.hid (by rw [nx.out VX.out]; exact hX.out), Lib.hid (by rw [yy.out VY.out, hY.out, hU.out]), Lib.hid (by rw [us.out, hU.out]), (by trivial)⟩
          | exact ⟨k + 1, _, _, _, by omega, by go_num, rfl, rfl, rfl, by omega, by omega, by omega, by omega, bu.1, bu.2, Lib.hid (by rw [yx.out VX.out, hX.out, hU.out]), Lib.hid (by rw [yy.out VY.out, hY.out, hU.out]), Lib.hid (by rw [us.out, hU.out]), (by trivial)⟩
        case measure => simp [intOf]; omega
    · obtain rfl : k = n := by omega
      have e1 := hX.out
      have e2 := hY.out
      subst e1 e2
      go_wp2_with fail
      go_ret2
      exact ⟨rfl, rfl⟩
end Go.Proofs.Ytijjapmdkalfaaa.B
