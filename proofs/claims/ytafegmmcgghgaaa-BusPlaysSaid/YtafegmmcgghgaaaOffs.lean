/- A file's offsets, rising. -/
import Derived.Test.YtafegmmcgghgaaaFile
import Derived.Test.YtafegmmcgghgaaaRng
import Derived.Test.YtafegmmcgghgaaaOffU
import Derived.Deep.Cut
import Derived.Sort.Statements
namespace Go.Proofs.Ytafegmmcgghgaaa.B
set_option linter.unusedVariables false
set_option linter.unusedSimpArgs false
open Go.ChangeShapes Go.WideShapes Go.RowKit Go.Sort Go.MapKept
/-- What a sort of numbers of 32 bits says. -/
def SortSaid : Prop := ∀ (g n cap : Nat) (d : Array Int) (w : World), DAt w g d → d.size = n → n ≤ cap → cap ≤ 9223372036854775807 → n < 100000 →
    Calls Try.prog 58 #[.slice (some ⟨g, 0, none⟩) n cap] w
      fun e w' => e = .returned (.tuple #[]) ∧ (∃ d' : Array Int, DAt w' g d' ∧ d'.size = n ∧ d'.toList.Perm d.toList ∧ d'.toList.Pairwise (· ≤ ·)) ∧ Off (· = g) w w'
def SortNil : Prop := ∀ (w : World), Calls Try.prog 58 #[.slice none 0 0] w fun e w' => e = .returned (.tuple #[]) ∧ w = w'
/-- A slice of numbers, to be read. -/
def SlAt (w : World) (B : Nat) (v : Value) (xs : List Int) : Prop := (v = .slice none 0 0 ∧ xs = []) ∨ ∃ g cap, v = .slice (some ⟨g, 0, none⟩) xs.length cap ∧ B ≤ g ∧ xs.length ≤ cap ∧ cap ≤ maxLen ∧ DAt w g xs.toArray
def lenOf : Value → Nat
  | .slice _ n _ => n
  | _ => 0
theorem OwnU.len {w : World} {B : Nat} {v : Value} {xs : List Int} (h : OwnU w B v xs) : lenOf v = xs.length := by
  rcases h.2 with ⟨rfl, h2⟩ | ⟨g, cap, cur, rfl, _⟩
  · exact h2.symm
  · rfl
set_option maxRecDepth 100000 in
set_option maxHeartbeats 3200000 in
theorem fOffsets (hSort : SortSaid) (hNil : SortNil) {w : World} {f m : Nat} {M : List (Int × Rg)} (h : FileAt w f m M) (hl : M.length < 100000) :
    Calls Try.prog 44 #[.pointer (some ⟨f, 0, none⟩)] w
      fun e w' => ∃ v xs, e = .returned v ∧ SlAt w' w.heap.size v xs ∧ xs.Perm (M.map (·.1)) ∧ xs.Pairwise (· ≤ ·) ∧ Below w.heap.size w w' := by
  have hml := h.ltm
  obtain ⟨w1, hrun, hR, hb⟩ := range_start (P := Try.prog) Try.underlying75 h.map
  have c0 := blk_cell h.cell 0
  simp only [List.getElem?_toArray, List.getElem?_cons_zero] at c0
  have hM : ((M.map fun p => (p.1, p.2.val)).map (·.1)) = M.map (·.1) := by simp
  have hML : (M.map fun p => (p.1, p.2.val)).length = M.length := by simp
  have HM := Lib.hid hM
  have HS := Lib.hid hSort
  have HN := Lib.hid hNil
  clear hM hSort hNil
  generalize (M.map fun p => (p.1, p.2.val)) = M' at *
  have O0 : OwnU w1 (w.heap.size + 1) (.slice none 0 0) [] := World.ownsRow_nil _ _ _ _
  have hs1 : w.heap.size + 1 ≤ w1.heap.size := hR.ltr
  clear h
  go_enter Try.func44, Try.ntmps44
  go_wp2_with fail
  clear hrun c0
  go_loopw [3] (fun l wr => ∃ (xs : List Int) (V : Value), l = V ∧ OwnU wr (w.heap.size + 1) V xs ∧ RngAt wr ek ok32 m w.heap.size M' xs.reverse ∧ Below w.heap.size w wr ∧ w.heap.size + 1 ≤ wr.heap.size) (fun l wr => M.length - lenOf l)
  case atStart => exact ⟨[], _, rfl, O0, hR, hb, hs1⟩
  case round =>
    clear O0 hR hb hs1
    obtain ⟨xs, V, hV, O, hR, hB, hs⟩ := hrel
    subst hV
    rcases hR.next (P := Try.prog) un32 un32_ek 0 with ⟨hp, hrun⟩ | ⟨x, v, w2, hxm, hlen, hrun, hR2, ho, hsz, hent⟩
    · have hp2 : xs.Perm (M.map (·.1)) := by rw [← HM.out]; exact (List.reverse_perm xs).symm.trans hp
      have HP := Lib.hid hp2
      have hxl : xs.length < 100000 := by have := hp2.length_eq; simp at this; omega
      clear hp hp2 hR
      rcases O.cases with ⟨rfl, rfl⟩ | ⟨g, cap, rfl, hg, hnc, hcm, hD⟩
      · go_wp2_with fail
        refine (HN.out _).mono ?_
        rintro e w' ⟨rfl, rfl⟩
        go_wp2_with fail
        go_ret
        exact ⟨_, [], rfl, .inl ⟨rfl, rfl⟩, HP.out, List.Pairwise.nil, hB⟩
      · unfold maxLen at hcm
        have C := Lib.hid (HS.out g xs.length cap xs.toArray _ hD (by simp) hnc (by omega) hxl)
        go_wp2_with fail
        refine C.out.mono ?_
        rintro e w2 ⟨rfl, ⟨d', D', hsz, hpm, hst⟩, ho⟩
        have B2 := hB.trans (ho.below (fun k hk e => by omega) hB.size)
        have hlen : d'.toList.length = xs.length := by simpa using hsz
        clear C hD O hB ho
        go_wp2_with fail
        go_ret
        refine ⟨_, d'.toList, rfl, .inr ⟨g, cap, by simp [hsz], by omega, by omega, by unfold maxLen; omega, by simpa using D'⟩, ?_, hst, B2⟩
        exact (by simpa using hpm : d'.toList.Perm xs).trans HP.out
    · have hxs : xs.length < M.length := by simpa [hML] using hlen
      have O2 := own_off O ho (fun k e => .inl (by omega))
      have B2 := Off.toBelow hB ho (fun k hk e => by omega) (Nat.le_refl _)
      have hlo := O.len
      clear O hR hB ho hlen hML
      have hrun2 : (Instr.next (.pointer (some ⟨w.heap.size, 0, none⟩)) false 0).run Try.prog wr = .ok (.tuple #[.bool true, .agg #[.int .u32 x], v]) w2 := hrun
      have hent2 : (Instr.entry (.pointer (some ⟨w.heap.size, 0, none⟩))).run Try.prog w2 = .ok (.tuple #[.agg #[.int .u32 x], v]) w2 := hent
      clear hrun hent
      go_upto_region 7 with (fail)
      have hb3 := trA (tr0 w2) (.cells #[.int .u32 x] 85 (0, 0))
      have c4 : (w2.alloc (.cells #[.int .u32 x] 85 (0, 0))).cell? ⟨wr.heap.size, 0, none⟩ = some (.int .u32 x) := by
        rw [← hsz]
        exact blk_cell (blk_new w2 (.cells #[.int .u32 x] 85 (0, 0))) 0
      have O3 := own_off O2 (Off.ofBelow (S := fun _ => False) hb3) (fun _ h => h.elim)
      have R3 := hR2.below hb3
      have B3 := tr B2 hb3
      have hs3 : w.heap.size + 1 ≤ (w2.alloc (.cells #[.int .u32 x] 85 (0, 0))).heap.size := by have := hb3.size; omega
      clear O2 hR2 B2 hb3 hrun2 hent2
      generalize (w2.alloc (.cells #[.int .u32 x] 85 (0, 0))) = W at *
      have hb4 := trA (tr0 W) (.cells #[.int .u32 x] 26 (0, 0))
      have hy : (W.alloc (.cells #[.int .u32 x] 26 (0, 0))).cell? ⟨W.heap.size, 0, none⟩ = some (.int .u32 x) := by
        exact blk_cell (blk_new W (.cells #[.int .u32 x] 26 (0, 0))) 0
      have O4 := own_off O3 (Off.ofBelow (S := fun _ => False) hb4) (fun _ h => h.elim)
      have R4 := R3.below hb4
      have B4 := tr B3 hb4
      have hBs : w.heap.size + 1 ≤ (W.alloc (.cells #[.int .u32 x] 26 (0, 0))).heap.size := by have := hb4.size; omega
      have hxl : xs.length < 100000 := by omega
      have hm := R4.ltb
      clear O3 R3 B3 hb4
      go_wp2_with (refine appendU rfl (.tmp 16) (.tmp 19) rfl rfl O4 rfl hy hxl hBs ?_; intro v' w5 O5 ho5)
      have hown := fun b hb => (World.ownsRow.lt O4 b hb).1
      have R5 := R4.off ho5 (fun e => by have := hown m e; omega) (fun e => by have := hown w.heap.size e; omega)
      have B5 := Off.toBelow B4 ho5 (fun b hb e => by have := hown b e; omega) (Nat.le_refl _)
      have hs5 := ho5.size
      clear O4 R4 B4 ho5 hown
      refine ⟨⟨xs ++ [x], _, rfl, O5, by simpa using R5, B5, by omega⟩, ?_⟩
      rw [hlo, O5.len, List.length_append, List.length_singleton]
      omega
end Go.Proofs.Ytafegmmcgghgaaa.B
