/- What a bank's methods return: Load, Store, Left. -/
import Derived.Test.YtijjapmdkalfaaaGBank2
namespace Go.Proofs.Ytijjapmdkalfaaa.B
set_option linter.unusedVariables false
set_option linter.unusedSimpArgs false
open Go.ChangeShapes Go.WideShapes Go.RowKit Go.Sort
def kLErr (n : Nat) (o : Int) : Int := if kErr n o = 0 then nErr (o % 32) else kErr n o
def kVal (n : Nat) (t : Nat → Tm) (o : Int) : Int := if kErr n o = 0 then (t (o / 32).toNat).val (o % 32) else 0
def kSErr (n : Nat) (o : Int) : Int := if kErr n o = 0 then nSErr (o % 32) else kErr n o
def kSto (n : Nat) (t : Nat → Tm) (o x : Int) : Nat → Tm := if kSErr n o = 0 then upd1 t (o / 32).toNat ((t (o / 32).toNat).sto (o % 32) x) else t
section
variable {p g n : Nat} {q : Nat → Nat} {t : Nat → Tm} {w : World}
theorem bLoad (h : BkAt w p g n q t) (o : Int) (o0 : 0 ≤ o) (o1 : o < 4294967296) :
    Calls Try.prog 15 #[.pointer (some ⟨p, 0, none⟩), .int .u32 o] w fun e w' => e = .returned (.tuple #[.int .u32 (kVal n t o), .int .i64 (kLErr n o)]) ∧ w = w' := by
  unfold kVal kLErr
  by_cases hE : kErr n o = 0
  · rw [if_pos hE, if_pos hE]
    obtain ⟨_, _, hk⟩ := kErr_zero o0 hE
    have C := nLoad (t (o / 32).toNat) (o % 32) (q (o / 32).toNat) w (h.rm.ok _ hk) (h.rm.tms _ hk) (by omega) (by omega)
    have F := bFind h o o0 o1 hE
    generalize (t (o / 32).toNat).val (o % 32) = V at *
    generalize nErr (o % 32) = E at *
    generalize q (o / 32).toNat = r at *
    generalize o % 32 = s at *
    clear h hE hk
    go_enter Try.func15, Try.ntmps15
    go_wp2_with fail
    refine F.mono ?_
    rintro e w1 ⟨rfl, rfl⟩
    go_wp2_with fail
    refine C.mono ?_
    rintro e w1 ⟨rfl, rfl⟩
    go_wp2_with fail
    go_ret2
    exact ⟨rfl, rfl⟩
  · rw [if_neg hE, if_neg hE]
    have F := bFindNo h o _ o0 o1 rfl hE
    have hn : (kErr n o == 0) = false := by simpa using hE
    have hn2 : (kErr n o != 0) = true := by simpa using hE
    generalize kErr n o = E at *
    clear h hE
    go_enter Try.func15, Try.ntmps15
    go_wp2_with fail
    refine F.mono ?_
    rintro e w1 ⟨rfl, rfl⟩
    go_wp2_with fail
    go_ret2
    exact ⟨rfl, rfl⟩
theorem bLoadNil (o : Int) (w : World) :
    Calls Try.prog 15 #[.pointer none, .int .u32 o] w fun e w' => e = .returned (.tuple #[.int .u32 0, .int .i64 10]) ∧ w = w' := by
  go_enter Try.func15, Try.ntmps15
  go_wp2_with fail
  refine (bFindNil o w).mono ?_
  rintro e w1 ⟨rfl, rfl⟩
  go_wp2_with fail
  go_ret2
  exact ⟨rfl, rfl⟩
theorem bStore (h : BkAt w p g n q t) (o x : Int) (o0 : 0 ≤ o) (o1 : o < 4294967296) (x0 : 0 ≤ x) (x1 : x < 4294967296) :
    Calls Try.prog 11 #[.pointer (some ⟨p, 0, none⟩), .int .u32 o, .int .u32 x] w fun e w' => e = .returned (.int .i64 (kSErr n o)) ∧ BkAt w' p g n q (kSto n t o x) ∧ Off (own n q) w w' := by
  unfold kSto kSErr
  by_cases hE : kErr n o = 0
  · rw [if_pos hE]
    obtain ⟨_, _, hk⟩ := kErr_zero o0 hE
    have hok := h.rm.ok _ hk
    have C := nStore (t (o / 32).toNat) (o % 32) x (q (o / 32).toNat) w hok (h.rm.tms _ hk) (by omega) (by omega) x0 x1
    have F := bFind h o o0 o1 hE
    have hso : (if nSErr (o % 32) = 0 then (t (o / 32).toNat).sto (o % 32) x else t (o / 32).toNat).ok := by
      split
      · exact Tm.sto_ok hok _ _ x0 x1
      · exact hok
    have hcg : ∀ i, i < n → upd1 t (o / 32).toNat (if nSErr (o % 32) = 0 then (t (o / 32).toNat).sto (o % 32) x else t (o / 32).toNat) i = (if nSErr (o % 32) = 0 then upd1 t (o / 32).toNat ((t (o / 32).toNat).sto (o % 32) x) else t) i := by
      intro i _
      by_cases hs : nSErr (o % 32) = 0
      · rw [if_pos hs, if_pos hs]
      · rw [if_neg hs, if_neg hs]
        by_cases e : i = (o / 32).toNat
        · subst e; exact upd1_at _ _ _
        · exact upd1_ne _ _ e
    have H := Lib.hid h
    have HC := Lib.hid hcg
    have HS := Lib.hid hso
    clear hcg hso hok h hE
    have HT := fun (w' : World) (S : Tm) (ho : Off (· = q (o / 32).toNat) w w') (a : TAt w' (q (o / 32).toNat) tC S) (os : S.ok) => (H.out.turn hk a os ho)
    have HO := fun (w' : World) (ho : Off (· = q (o / 32).toNat) w w') => ho.own hk
    have HT := Lib.hid HT
    have HO := Lib.hid HO
    generalize hS : (if nSErr (o % 32) = 0 then (t (o / 32).toNat).sto (o % 32) x else t (o / 32).toNat) = S at *
    generalize hT : (if nSErr (o % 32) = 0 then upd1 t (o / 32).toNat ((t (o / 32).toNat).sto (o % 32) x) else t) = T at *
    clear hS hT H
    generalize nSErr (o % 32) = E at *
    generalize (o / 32).toNat = r at *
    generalize o % 32 = s at *
    go_enter Try.func11, Try.ntmps11
    go_wp2_with fail
    refine F.mono ?_
    rintro e w1 ⟨rfl, rfl⟩
    go_wp2_with fail
    refine C.mono ?_
    rintro e w1 ⟨rfl, a, ho⟩
    go_wp2_with fail
    go_ret
    exact ⟨rfl, (HT.out _ _ ho a HS.out).congr HC.out, HO.out _ ho⟩
  · rw [if_neg hE, if_neg hE]
    have F := bFindNo h o _ o0 o1 rfl hE
    have hn : (kErr n o == 0) = false := by simpa using hE
    have hn2 : (kErr n o != 0) = true := by simpa using hE
    generalize kErr n o = E at *
    clear hE
    have H := Lib.hid h
    clear h
    go_enter Try.func11, Try.ntmps11
    go_wp2_with fail
    refine F.mono ?_
    rintro e w1 ⟨rfl, rfl⟩
    go_wp2_with fail
    go_ret
    exact ⟨rfl, H.out, Off.refl _ _⟩
theorem bStoreNil (o x : Int) (w : World) :
    Calls Try.prog 11 #[.pointer none, .int .u32 o, .int .u32 x] w fun e w' => e = .returned (.int .i64 10) ∧ w = w' := by
  go_enter Try.func11, Try.ntmps11
  go_wp2_with fail
  refine (bFindNil o w).mono ?_
  rintro e w1 ⟨rfl, rfl⟩
  go_wp2_with fail
  go_ret
  exact ⟨rfl, rfl⟩
end
end Go.Proofs.Ytijjapmdkalfaaa.B
