/- The document's file: find, Load. -/
import Derived.Test.YtfhggmiaablcnaaAR
namespace Go.Proofs.Ytfhggmiaablcnaa.B
set_option linter.unusedVariables false
set_option linter.unusedSimpArgs false
open Go.ChangeShapes Go.WideShapes Go.RowKit Go.Sort
theorem aFindBad (off : Int) (v : Value) (w : World) (h0 : 0 ≤ off) (h : (off % 4 != 0) = true) :
    Calls Try.prog 30 #[v, .int .u32 off] w fun e w' => e = .returned (.tuple #[.int .i64 0, .int .i64 11]) ∧ w = w' := by
  go_enter Try.func30, Try.ntmps30
  go_wp2_with fail
  go_ret2
  exact ⟨rfl, rfl⟩
theorem aFindNone (off : Int) {B : Nat} {v : Value} {L : List (Int × Rg)} {w : World} (h0 : 0 ≤ off) (h : (off % 4 != 0) = false) (hO : OwnA w B v L) (hno : ∀ p ∈ L, p.1 ≠ off) (hl : L.length < 100000) :
    Calls Try.prog 30 #[v, .int .u32 off] w fun e w' => e = .returned (.tuple #[.int .i64 0, .int .i64 10]) ∧ w = w' := by
  rcases hO.cases with ⟨rfl, rfl⟩ | ⟨g, cap, rfl, hB, hnc, hcm, hgl, _⟩
  · go_enter Try.func30, Try.ntmps30
    go_wp2_with fail
    refine wp_loop_rounds 1 ?_
    rw [rounds_succ]
    go_wp2_with fail
    go_ret2
    exact ⟨rfl, rfl⟩
  · unfold maxLen at hcm
    have HO := Lib.hid hO
    have HN := Lib.hid hno
    clear hO hno
    go_enter Try.func30, Try.ntmps30
    go_wp2_with fail
    go_loopw [6] (fun i wr => ∃ k : Nat, k ≤ L.length ∧ i = .int .i64 k ∧ wr = w) (fun i wr => L.length - (intOf i).toNat)
    case atStart => exact ⟨0, by omega, rfl, rfl⟩
    case round =>
      obtain ⟨k, hk, rfl, rfl⟩ := hrel
      by_cases hlt : k < L.length
      · obtain ⟨p, hp⟩ : ∃ p, L[k]? = some p := ⟨L[k], List.getElem?_eq_getElem hlt⟩
        have c0 := HO.out.cell hp 0 (by decide)
        have hne : (p.1 == off) = false := by simpa using HN.out p (List.mem_of_getElem? hp)
        simp only [al, List.getElem?_cons_zero, Nat.add_zero] at c0
        clear hp
        go_wp2_with fail
        go_roundw
        case rel => exact ⟨k + 1, by omega, by go_num, by trivial⟩
        case measure => simp [intOf]; omega
      · obtain rfl : k = L.length := by omega
        go_wp2_with fail
        go_ret2
        exact ⟨rfl, rfl⟩
theorem aFind (off : Int) (i : Nat) (r : Rg) {B g cap : Nat} {L : List (Int × Rg)} {w : World} (h0 : 0 ≤ off) (h : (off % 4 != 0) = false) (hO : OwnA w B (.slice (some ⟨g, 0, none⟩) L.length cap) L) (hc : L.length ≤ cap) (hm : cap ≤ maxLen) (hi : L[i]? = some (off, r)) (hn : (L.map (·.1)).Nodup) (hl : L.length < 100000) :
    Calls Try.prog 30 #[.slice (some ⟨g, 0, none⟩) L.length cap, .int .u32 off] w fun e w' => e = .returned (.tuple #[.int .i64 i, .int .i64 0]) ∧ w = w' := by
  unfold maxLen at hm
  have hil : i < L.length := (List.getElem?_eq_some_iff.1 hi).1
  have hno : ∀ k p, k < i → L[k]? = some p → p.1 ≠ off := fun k p hk hp e => by
    have h1 : (L.map (·.1))[k]? = some off := by simp [hp, e]
    have h2 : (L.map (·.1))[i]? = some off := by simp [hi]
    have hkl : k < (L.map (·.1)).length := (List.getElem?_eq_some_iff.1 h1).1
    have hil' : i < (L.map (·.1)).length := (List.getElem?_eq_some_iff.1 h2).1
    have := (List.getElem_inj (h₀ := hkl) (h₁ := hil') hn).1 (by rw [(List.getElem?_eq_some_iff.1 h1).2, (List.getElem?_eq_some_iff.1 h2).2])
    omega
  have HO := Lib.hid hO
  have HI := Lib.hid hi
  have HN := Lib.hid hno
  clear hO hno hi hn
  go_enter Try.func30, Try.ntmps30
  go_wp2_with fail
  go_loopw [6] (fun j wr => ∃ k : Nat, k ≤ i ∧ j = .int .i64 k ∧ wr = w) (fun j wr => L.length - (intOf j).toNat)
  case atStart => exact ⟨0, by omega, rfl, rfl⟩
  case round =>
    obtain ⟨k, hk, rfl, rfl⟩ := hrel
    by_cases hlt : k < i
    · obtain ⟨p, hp⟩ : ∃ p, L[k]? = some p := ⟨L[k], List.getElem?_eq_getElem (by omega)⟩
      have c0 := HO.out.cell hp 0 (by decide)
      have hne : (p.1 == off) = false := by simpa using HN.out k p hlt hp
      simp only [al, List.getElem?_cons_zero, Nat.add_zero] at c0
      clear hp
      go_wp2_with fail
      go_roundw
      case rel => exact ⟨k + 1, by omega, by go_num, by trivial⟩
      case measure => simp [intOf]; omega
    · obtain rfl : k = i := by omega
      have c0 := HO.out.cell HI.out 0 (by decide)
      simp only [al, List.getElem?_cons_zero, Nat.add_zero] at c0
      have hq : (off == off) = true := by simp
      go_wp2_with fail
      go_ret2
      exact ⟨rfl, rfl⟩
theorem aLoadBad (off : Int) (v : Value) (w : World) (h0 : 0 ≤ off) (h : (off % 4 != 0) = true) :
    Calls Try.prog 8 #[v, .int .u32 off] w fun e w' => e = .returned (.tuple #[.int .u32 0, .int .i64 11]) ∧ w = w' := by
  go_enter Try.func8, Try.ntmps8
  go_wp2_with fail
  refine (aFindBad off v w h0 h).mono ?_
  rintro e w' ⟨rfl, rfl⟩
  go_wp2_with fail
  go_ret2
  exact ⟨rfl, rfl⟩
theorem aLoadNone (off : Int) {B : Nat} {v : Value} {L : List (Int × Rg)} {w : World} (h0 : 0 ≤ off) (h : (off % 4 != 0) = false) (hO : OwnA w B v L) (hno : ∀ p ∈ L, p.1 ≠ off) (hl : L.length < 100000) :
    Calls Try.prog 8 #[v, .int .u32 off] w fun e w' => e = .returned (.tuple #[.int .u32 0, .int .i64 10]) ∧ w = w' := by
  have C := Lib.hid (aFindNone off h0 h hO hno hl)
  clear hO hno
  go_enter Try.func8, Try.ntmps8
  go_wp2_with fail
  refine C.out.mono ?_
  rintro e w' ⟨rfl, rfl⟩
  go_wp2_with fail
  go_ret2
  exact ⟨rfl, rfl⟩
theorem aLoad (off : Int) (i : Nat) (r : Rg) {B g cap : Nat} {L : List (Int × Rg)} {w : World} (h0 : 0 ≤ off) (h : (off % 4 != 0) = false) (hO : OwnA w B (.slice (some ⟨g, 0, none⟩) L.length cap) L) (hc : L.length ≤ cap) (hm : cap ≤ maxLen) (hi : L[i]? = some (off, r)) (hn : (L.map (·.1)).Nodup) (hl : L.length < 100000) :
    Calls Try.prog 8 #[.slice (some ⟨g, 0, none⟩) L.length cap, .int .u32 off] w fun e w' => e = .returned (.tuple #[.int .u32 r.v, .int .i64 0]) ∧ w = w' := by
  have C := Lib.hid (aFind off i r h0 h hO hc hm hi hn hl)
  have c1 := hO.cell hi 1 (by decide)
  simp only [al, List.getElem?_cons_zero, List.getElem?_cons_succ] at c1
  have hil : i < L.length := (List.getElem?_eq_some_iff.1 hi).1
  unfold maxLen at hm
  clear hO hi hn
  go_enter Try.func8, Try.ntmps8
  go_wp2_with fail
  refine C.out.mono ?_
  rintro e w' ⟨rfl, rfl⟩
  go_wp2_with fail
  go_ret2
  exact ⟨rfl, rfl⟩
end Go.Proofs.Ytfhggmiaablcnaa.B
