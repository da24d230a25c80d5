/- Layer 9: Store, Word. -/
import Derived.Test.YtahhgeimbdlhpaaSCode2
namespace Go.Proofs.Ytahhgeimbdlhpaa.B
set_option linter.unusedVariables false
set_option linter.unusedSimpArgs false
open Go.ChangeShapes Go.WideShapes Go.RowKit Go.Sort
theorem sErr_0 : sErr9 0 = 0 := rfl
theorem sErr_4 : sErr9 4 = 0 := rfl
theorem sErr_8 : sErr9 8 = 0 := rfl
theorem sErr_12 : sErr9 12 = 0 := rfl
theorem wErr_0 : wErr9 0 = 0 := rfl
theorem wErr_4 : wErr9 4 = 12 := rfl
theorem wErr_8 : wErr9 8 = 0 := rfl
theorem wErr_12 : wErr9 12 = 12 := rfl
set_option maxHeartbeats 800000 in
theorem rsStore0 (t : Rs) (v : Int) (p : Nat) (w : World) (h : t.ok) (a : SAt w p tS t) (v0 : 0 ≤ v) (v1 : v < 4294967296) :
    Calls Try.prog 13 #[.pointer (some ⟨p, 0, none⟩), .int .u32 0, .int .u32 v] w fun e w' => e = .returned (.int .i64 0) ∧ SAt w' p tS (t.clr v) ∧ Off (· = p) w w' := by
  have HC := Lib.hid (fun w a => by have := rsCheck t 0 p w h a (by omega) (by omega); rw [sErr_0] at this; exact this)
  go_enter Try.func13, Try.ntmps13
  go_wp2_with fail
  refine (HC.out _ a).mono ?_
  rintro e w1 ⟨rfl, h1⟩
  have A := a.below h1
  have x0 := A.c0
  have f0 := A.free 0
  have Z := A.s0 (bits BinOp.andNot IntKind.u32 t.ca v)
  have hO := (Off.ofBelow (S := (· = p)) h1).trans (off_set w1 p 0 (.int .u32 (bits BinOp.andNot IntKind.u32 t.ca v)))
  have Z2 := Z.below (trD (tr0 _))
  have hO2 := hO.trans (off_drew _)
  clear a h1 HC
  go_wp2_with fail
  go_region
  all_goals
    go_wp2_with fail
    go_ret
    first | exact ⟨rfl, Z, hO⟩ | exact ⟨rfl, Z2, hO2⟩
theorem rsStore8 (t : Rs) (v : Int) (p : Nat) (w : World) (h : t.ok) (a : SAt w p tS t) (v0 : 0 ≤ v) (v1 : v < 4294967296) :
    Calls Try.prog 13 #[.pointer (some ⟨p, 0, none⟩), .int .u32 8, .int .u32 v] w fun e w' => e = .returned (.int .i64 0) ∧ SAt w' p tS (t.ask v) ∧ Off (· = p) w w' := by
  have HC := Lib.hid (fun w a => by have := rsCheck t 8 p w h a (by omega) (by omega); rw [sErr_8] at this; exact this)
  obtain ⟨q, hq⟩ : ∃ q, t.qs = q := ⟨_, rfl⟩
  obtain ⟨z, hz⟩ : ∃ z, (v == 45063) = z := ⟨_, rfl⟩
  have HK := Lib.hid (show (⟨t.ca, t.ct, t.la, q || z⟩ : Rs) = t.ask v by unfold Rs.ask; rw [hq, hz])
  cases q
  · cases z
    all_goals
      go_enter Try.func13, Try.ntmps13
      go_wp2_with fail
      refine (HC.out _ a).mono ?_
      rintro e w1 ⟨rfl, h1⟩
      have A := a.below h1
      have x0 := A.c4
      rw [hq] at x0
      have f0 := A.free 4
      clear hq a HC
      go_wp2_with fail
      go_ret
      refine ⟨rfl, by rw [← HK.out]; exact A.s4 _, (Off.ofBelow (S := (· = p)) h1).trans (off_set w1 p 4 _)⟩
  · go_enter Try.func13, Try.ntmps13
    go_wp2_with fail
    refine (HC.out _ a).mono ?_
    rintro e w1 ⟨rfl, h1⟩
    have A := a.below h1
    have x0 := A.c4
    rw [hq] at x0
    have f0 := A.free 4
    clear hq a HC
    go_wp2_with fail
    go_ret
    refine ⟨rfl, by rw [← HK.out]; exact A.s4 _, (Off.ofBelow (S := (· = p)) h1).trans (off_set w1 p 4 _)⟩
theorem rsStoreR (t : Rs) (o v : Int) (p : Nat) (w : World) (h : t.ok) (a : SAt w p tS t) (ho : o = 4 ∨ o = 12) :
    Calls Try.prog 13 #[.pointer (some ⟨p, 0, none⟩), .int .u32 o, .int .u32 v] w fun e w' => e = .returned (.int .i64 12) ∧ Below w.heap.size w w' := by
  rcases ho with rfl | rfl
  · have HC := Lib.hid (fun w a => by have := rsCheck t 4 p w h a (by omega) (by omega); rw [sErr_4] at this; exact this)
    go_enter Try.func13, Try.ntmps13
    go_wp2_with fail
    refine (HC.out _ a).mono ?_
    rintro e w1 ⟨rfl, h1⟩
    go_wp2_with fail
    go_ret
    exact ⟨rfl, h1⟩
  · have HC := Lib.hid (fun w a => by have := rsCheck t 12 p w h a (by omega) (by omega); rw [sErr_12] at this; exact this)
    go_enter Try.func13, Try.ntmps13
    go_wp2_with fail
    refine (HC.out _ a).mono ?_
    rintro e w1 ⟨rfl, h1⟩
    go_wp2_with fail
    go_ret
    exact ⟨rfl, h1⟩
theorem rsStoreE (t : Rs) (o v : Int) (p : Nat) (w : World) (h : t.ok) (a : SAt w p tS t) (o0 : 0 ≤ o) (o1 : o < 4294967296) (he : sErr9 o ≠ 0) :
    Calls Try.prog 13 #[.pointer (some ⟨p, 0, none⟩), .int .u32 o, .int .u32 v] w fun e w' => e = .returned (.int .i64 (sErr9 o)) ∧ Below w.heap.size w w' := by
  have HC := Lib.hid (fun w a => rsCheck t o p w h a o0 o1)
  obtain ⟨E, hE⟩ : ∃ E, sErr9 o = E := ⟨_, rfl⟩
  rw [hE] at HC he ⊢
  have q1 : (E != 0) = true := by simpa using he
  clear hE he
  go_enter Try.func13, Try.ntmps13
  go_wp2_with fail
  refine (HC.out _ a).mono ?_
  rintro e w1 ⟨rfl, h1⟩
  go_wp2_with fail
  go_ret
  exact ⟨rfl, h1⟩
/-- Store, of any offset. -/
theorem rsStore (t : Rs) (o v : Int) (p : Nat) (w : World) (h : t.ok) (a : SAt w p tS t) (o0 : 0 ≤ o) (o1 : o < 4294967296) (v0 : 0 ≤ v) (v1 : v < 4294967296) :
    Calls Try.prog 13 #[.pointer (some ⟨p, 0, none⟩), .int .u32 o, .int .u32 v] w fun e w' => e = .returned (.int .i64 (wErr9 o)) ∧ SAt w' p tS (t.sto o v) ∧ Off (· = p) w w' := by
  by_cases he : sErr9 o = 0
  · rcases sErr9_zero o0 he with rfl | rfl | rfl | rfl
    · exact rsStore0 t v p w h a v0 v1
    · refine (rsStoreR t 4 v p w h a (by omega)).mono ?_
      rintro e w1 ⟨rfl, h1⟩
      exact ⟨rfl, a.below h1, Off.ofBelow h1⟩
    · exact rsStore8 t v p w h a v0 v1
    · refine (rsStoreR t 12 v p w h a (by omega)).mono ?_
      rintro e w1 ⟨rfl, h1⟩
      exact ⟨rfl, a.below h1, Off.ofBelow h1⟩
  · have e1 : wErr9 o = sErr9 o := by unfold wErr9; rw [if_pos he]
    have e2 : t.sto o v = t := by
      unfold Rs.sto
      rw [if_neg (fun e => he (by rw [e]; rfl)), if_neg (fun e => he (by rw [e]; rfl))]
    rw [e1, e2]
    refine (rsStoreE t o v p w h a o0 o1 he).mono ?_
    rintro e w1 ⟨rfl, h1⟩
    exact ⟨rfl, a.below h1, Off.ofBelow h1⟩
/-- A cause's word. -/
def wrd (c : Int) : ByteArray := if c = 1 then ⟨#[112, 111, 119, 101, 114]⟩ else if c = 2 then ⟨#[116, 105, 109, 101, 111, 117, 116]⟩ else if c = 4 then ⟨#[101, 97, 114, 108, 121]⟩ else if c = 8 then ⟨#[119, 114, 111, 110, 103]⟩ else if c = 16 then ⟨#[115, 111, 102, 116]⟩ else ⟨#[]⟩
theorem rsWord (c : Int) (w : World) : Calls Try.prog 18 #[.int .i64 c] w fun e w' => e = .returned (.string (wrd c)) ∧ w = w' := by
  have hc : c = 1 ∨ c = 2 ∨ c = 4 ∨ c = 8 ∨ c = 16 ∨ (c ≠ 1 ∧ c ≠ 2 ∧ c ≠ 4 ∧ c ≠ 8 ∧ c ≠ 16) := by omega
  rcases hc with rfl | rfl | rfl | rfl | rfl | ⟨n1, n2, n4, n8, n16⟩
  · go_enter Try.func18, Try.ntmps18
    go_wp2_with fail
    go_ret
    exact ⟨rfl, rfl⟩
  · go_enter Try.func18, Try.ntmps18
    go_wp2_with fail
    go_ret
    exact ⟨rfl, rfl⟩
  · go_enter Try.func18, Try.ntmps18
    go_wp2_with fail
    go_ret
    exact ⟨rfl, rfl⟩
  · go_enter Try.func18, Try.ntmps18
    go_wp2_with fail
    go_ret
    exact ⟨rfl, rfl⟩
  · go_enter Try.func18, Try.ntmps18
    go_wp2_with fail
    go_ret
    exact ⟨rfl, rfl⟩
  · have hw : wrd c = ⟨#[]⟩ := by unfold wrd; rw [if_neg n1, if_neg n2, if_neg n4, if_neg n8, if_neg n16]
    have q1 : (c == 1) = false := by simpa using n1
    have q2 : (c == 2) = false := by simpa using n2
    have q4 : (c == 4) = false := by simpa using n4
    have q8 : (c == 8) = false := by simpa using n8
    have q16 : (c == 16) = false := by simpa using n16
    rw [hw]
    clear hw n1 n2 n4 n8 n16
    go_enter Try.func18, Try.ntmps18
    go_wp2_with fail
    go_ret
    exact ⟨rfl, rfl⟩
end Go.Proofs.Ytahhgeimbdlhpaa.B
