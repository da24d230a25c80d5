/- slices.Sort at uint32, whole. -/
import Derived.Test.YtafegmmcgghgaaaOffs
import Derived.Test.YtafegmmcgghgaaaSrtZ
import Derived.Sort.AssemblyPlain
import Derived.Shelf.SlSortCmp.Xorshift
namespace Go.Proofs.Ytafegmmcgghgaaa.B
set_option linter.unusedVariables false
set_option linter.unusedSimpArgs false
open Go.ChangeShapes Go.WideShapes Go.RowKit Go.Sort
theorem sLen (n : Nat) (w : World) (hn : n < 4611686018427387904) : Calls Try.prog 72 #[.int .u64 n] w fun e w' => e = .returned (.int .i64 (Lib.bitLen n : Nat)) ∧ w' = w := by
  have h := Any.bits_Len (SlLaysF0.n15.bits { Try.bitsLn with }) (n : Int) w (by omega) (by omega)
  rwa [Int.toNat_natCast] at h
theorem sSort (g n cap : Nat) (d : Array Int) (w : World) (h : DAt w g d) (hn : d.size = n) (hc : n ≤ cap) (hm : cap ≤ 9223372036854775807) (hm2 : n < 1152921504606846976) :
    Calls Try.prog 58 #[.slice (some ⟨g, 0, none⟩) n cap] w
      fun e w' => e = .returned (.tuple #[]) ∧ DAt w' g (pdq ltU d 0 n (Lib.bitLen n) true true) ∧ Off (· = g) w w' := by
  have hlim : Lib.bitLen n < 4611686018427387904 := Nat.lt_of_le_of_lt (Lib.bitLen_le n 62 (by omega) (by omega)) (by omega)
  have HP := Lib.hid (sPdq g n cap hc hm hm2 (n + 1) 0 n (Lib.bitLen n) d w (by omega) hn h (Nat.zero_le _) (Nat.le_refl _) hlim (Or.inl rfl))
  have HL := Lib.hid (sLen n w (by omega))
  have hw : IntKind.u64.wrap (n : Int) = n := by simp [IntKind.wrap, IntKind.bits, IntKind.signed]; omega
  clear h
  generalize Lib.bitLen n = L at *
  go_enter Try.func58, Try.ntmps58
  go_wp2_with fail
  refine HL.out.mono ?_
  rintro e w1 ⟨rfl, rfl⟩
  go_wp2_with fail
  refine HP.out.mono ?_
  rintro e w1 ⟨rfl, D, ho⟩
  go_wp2_with fail
  go_end0
  exact ⟨rfl, D, ho⟩
theorem sort_said : SortSaid := by
  intro g n cap d w h hn hc hm hm2
  refine (sSort g n cap d w h hn hc hm (by omega)).mono ?_
  rintro e w' ⟨rfl, D, ho⟩
  obtain ⟨hp, hs⟩ := pdq_sorts ltU swo_ltU d 0 n (Lib.bitLen n) true true (Nat.zero_le _) (by omega) (Or.inl rfl)
  generalize pdq ltU d 0 n (Lib.bitLen n) true true = d' at *
  have hsz : d'.size = n := hp.1.trans hn
  refine ⟨rfl, ⟨d', D, hsz, ?_, ?_⟩, ho⟩
  · have h3 := hp.2.2
    have e1 : (d'.extract 0 n) = d' := by rw [← hsz]; simp
    have e2 : (d.extract 0 n) = d := by rw [← hn]; simp
    rwa [e1, e2] at h3
  · rw [List.pairwise_iff_getElem]
    intro i j hi hj hij
    have h4 := hs i j (Nat.zero_le _) hij (by have : j < d'.size := by simpa using hj
                                              omega)
    have hi' : i < d'.size := by simpa using hi
    have hj' : j < d'.size := by simpa using hj
    unfold ltU at h4
    rw [getElem!_pos d' j hj', getElem!_pos d' i hi'] at h4
    simpa using h4
end Go.Proofs.Ytafegmmcgghgaaa.B
