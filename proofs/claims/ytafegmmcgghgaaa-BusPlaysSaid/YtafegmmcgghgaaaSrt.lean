/- slices.Sort at uint32: a row of numbers in one block; Less, reverseRange, insertionSort. The plain functions are the library's (Derived.Sort.Defs). -/
import Derived.Test.YtafegmmcgghgaaaBusC
import Derived.Sort.AssemblyPlain
import Derived.Deep.CutRange
namespace Go.Proofs.Ytafegmmcgghgaaa.B
set_option linter.unusedVariables false
set_option linter.unusedSimpArgs false
open Go.ChangeShapes Go.WideShapes Go.RowKit Go.Sort
/-- Block g's first cells hold these numbers. -/
structure DAt (w : World) (g : Nat) (d : Array Int) : Prop where
  c : ∀ j, j < d.size → w.cell? ⟨g, j, none⟩ = some (.int .u32 d[j]!)
  f : ∀ j, j < d.size → w.frozen? ⟨g, j, none⟩ = false
  lt : g < w.heap.size
def ltU (x y : Int) : Bool := decide (x < y)
theorem DAt.kept {w w' : World} {g : Nat} {d : Array Int} (h : DAt w g d) (hb : w'.heap[g]? = w.heap[g]?) (hs : w.heap.size ≤ w'.heap.size) : DAt w' g d :=
  ⟨fun j hj => by rw [← h.c j hj]; simp only [World.cell?, hb], fun j hj => by rw [← h.f j hj]; simp only [World.frozen?, hb], Nat.lt_of_lt_of_le h.lt hs⟩
theorem DAt.off {w w' : World} {g : Nat} {d : Array Int} {S : Nat → Prop} (h : DAt w g d) (ho : Off S w w') (hg : ¬ S g) : DAt w' g d := h.kept (ho.block g h.lt hg) ho.size
theorem DAt.below {w w' : World} {g : Nat} {d : Array Int} (h : DAt w g d) (ho : Below w.heap.size w w') : DAt w' g d := h.kept (ho.block g h.lt) ho.size
theorem DAt.drewN {w : World} {g : Nat} {d : Array Int} (h : DAt w g d) (n : Nat) : DAt (w.drewN n) g d := h.kept rfl (Nat.le_refl _)
theorem swp_size (d : Array Int) (i j : Nat) : (swp d i j).size = d.size := by simp [swp]
theorem DAt.set {w : World} {g : Nat} {d : Array Int} (h : DAt w g d) (i : Nat) (x : Int) (hi : i < d.size) : DAt (w.setCell ⟨g, i, none⟩ (.int .u32 x)) g (d.setIfInBounds i x) := by
  refine ⟨fun k hk => ?_, fun k hk => ?_, by simpa using h.lt⟩
  · have hk' : k < d.size := by simpa using hk
    by_cases e : i = k
    · subst e
      rw [getElem!_set_same d i x hi]
      exact World.cell?_setCell_same _ _ _ (h.c i hi)
    · rw [getElem!_set_other d i k x (fun q => e q.symm)]
      refine Eq.trans (World.cell?_setCell_other _ _ _ _ ?_) (h.c k hk')
      simp only [ne_eq, Addr.mk.injEq, not_and]; intro _ h; exact absurd h e
  · have hk' : k < d.size := by simpa using hk
    rw [World.frozen?_setCell]; exact h.f k hk'
theorem DAt.swap {w : World} {g : Nat} {d : Array Int} (h : DAt w g d) (i j : Nat) (hi : i < d.size) (hj : j < d.size) : DAt ((w.setCell ⟨g, i, none⟩ (.int .u32 d[j]!)).setCell ⟨g, j, none⟩ (.int .u32 d[i]!)) g (swp d i j) :=
  (h.set i _ hi).set j _ (by simpa using hj)
theorem off_swap (w : World) (g i j : Nat) (x y : Value) : Off (· = g) w ((w.setCell ⟨g, i, none⟩ x).setCell ⟨g, j, none⟩ y) := (off_set w g i x).trans (off_set _ g j y)
theorem sLess (x y : Int) (w : World) : Calls Try.prog 82 #[.int .u32 x, .int .u32 y] w fun e w' => e = .returned (.bool (ltU x y)) ∧ w = w' := by
  unfold ltU
  go_enter Try.func82, Try.ntmps82
  go_wp2_with (go_at_call 75; refine (zIsNaN _ _).mono ?_; rintro e w1 ⟨rfl, rfl⟩)
  go_ret
  exact ⟨rfl, rfl⟩
set_option maxHeartbeats 1600000 in
theorem sReverse (g n cap a b : Nat) (d : Array Int) (w : World) (h : DAt w g d) (hab : a < b) (hb : b ≤ d.size) (hn : d.size = n) (hc : n ≤ cap) (hm : cap ≤ 9223372036854775807) :
    Calls Try.prog 80 #[.slice (some ⟨g, 0, none⟩) n cap, .int .i64 a, .int .i64 b] w
      fun e w' => e = .returned (.tuple #[]) ∧ DAt w' g (reverseRange d a b) ∧ Off (· = g) w w' := by
  subst hn
  go_enter Try.func80, Try.ntmps80
  go_wp2_with fail
  go_loopw [6, 7] (fun i j wr => ∃ (x y : Nat) (d' : Array Int), x ≤ y + 1 ∧ a ≤ x ∧ y < b ∧ i = .int .i64 x ∧ j = .int .i64 y ∧ DAt wr g d' ∧ d'.size = d.size ∧ reverseLoop x y d' = reverseRange d a b ∧ Off (· = g) w wr) (fun i j _ => (intOf j + 1 - intOf i).toNat)
  case atStart => exact ⟨a, b - 1, d, by omega, by omega, by omega, rfl, by go_num, h, rfl, rfl, Off.refl _ _⟩
  case round =>
    clear h
    obtain ⟨x, y, d', hxy, hx, hy, rfl, rfl, hD, hs, hR, ho⟩ := hrel
    by_cases hlt : x < y
    · have c1 := hD.c x (by omega)
      have c2 := hD.c y (by omega)
      have f1 := hD.f x (by omega)
      have f2 := hD.f y (by omega)
      go_wp2_with fail
      go_region
      have hD2 := (hD.swap x y (by omega) (by omega)).kept (w' := ((wr.setCell ⟨g, x, none⟩ (.int .u32 d'[y]!)).setCell ⟨g, y, none⟩ (.int .u32 d'[x]!)).drew) rfl (Nat.le_refl _)
      have ho2 := (ho.trans (off_swap wr g x y (.int .u32 d'[y]!) (.int .u32 d'[x]!))).trans (off_drew _)
      rw [reverseLoop.eq_def, if_pos hlt] at hR
      have HR := Lib.hid hR
      have HD := Lib.hid hD2
      clear hR hD hD2
      go_wp2_with fail
      go_roundw
      case rel => exact ⟨x + 1, y - 1, swp d' x y, by omega, by omega, by omega, by go_num, by go_num, HD.out, by rw [swp_size]; exact hs, HR.out, ho2⟩
      case measure => simp [intOf]; omega
    · rw [reverseLoop.eq_def, if_neg hlt] at hR
      subst hR
      go_wp2_with fail
      go_end0
      exact ⟨rfl, hD, ho⟩
theorem sLessB (x y : Int) (v : Bool) (hv : ltU x y = v) (w : World) : Calls Try.prog 82 #[.int .u32 x, .int .u32 y] w fun e w' => e = .returned (.bool v) ∧ Below w.heap.size w w' := by
  rw [← hv]; exact (sLess x y w).mono fun _ _ h => ⟨h.1, h.2 ▸ tr0 _⟩
set_option maxHeartbeats 3200000 in
theorem sInsertion (g n cap a b : Nat) (d : Array Int) (w : World) (h : DAt w g d) (hab : a ≤ b) (hb : b ≤ d.size) (hn : d.size = n) (hc : n ≤ cap) (hm : cap ≤ 9223372036854775807) (hm2 : n < 4611686018427387904) :
    Calls Try.prog 76 #[.slice (some ⟨g, 0, none⟩) n cap, .int .i64 a, .int .i64 b] w
      fun e w' => e = .returned (.tuple #[]) ∧ DAt w' g (insertionSort ltU d a b) ∧ Off (· = g) w w' := by
  subst hn
  go_enter Try.func76, Try.ntmps76
  go_wp2_with fail
  go_loopw [6] (fun i wr => ∃ (x : Nat) (d' : Array Int), a + 1 ≤ x ∧ (x ≤ b ∨ x = a + 1) ∧ i = .int .i64 x ∧ DAt wr g d' ∧ d'.size = d.size ∧ insOuter ltU a b x d' = insertionSort ltU d a b ∧ Off (· = g) w wr) (fun i _ => (d.size + 1 - intOf i).toNat)
  case atStart => exact ⟨a + 1, d, by omega, by omega, by go_num, h, rfl, rfl, Off.refl _ _⟩
  case round =>
    clear h
    obtain ⟨x, d', hx, hxb, rfl, hD, hs, hR, ho⟩ := hrel
    by_cases hlt : x < b
    · rw [insOuter.eq_def, if_pos hlt] at hR
      have HR := Lib.hid hR
      have H0 := Lib.hid hD
      have O0 := Lib.hid ho
      clear hR hD ho
      go_wp2_with fail
      go_loopw [7] (fun j wr2 => ∃ (y : Nat) (e' : Array Int), y ≤ x ∧ j = .int .i64 y ∧ DAt wr2 g e' ∧ e'.size = d.size ∧ Hid (insInner ltU a y e' = insInner ltU a x d') ∧ Off (· = g) w wr2) (fun j _ => (intOf j).toNat)
      case atStart => exact ⟨x, d', by omega, rfl, H0.out, hs, Lib.hid rfl, O0.out⟩
      case round =>
        obtain ⟨y, e', hyx, rfl, hE, hs2, hI, ho2⟩ := hrel
        have hg := gcell
        have hgl := hE.lt
        have HE := Lib.hid hE
        have HO2 := Lib.hid ho2
        clear hE ho2
        by_cases hya : a < y
        · obtain ⟨z, hz⟩ : ∃ z, y = z + 1 := ⟨y - 1, by omega⟩
          have c1 := HE.out.c y (by omega)
          have c2 := HE.out.c z (by omega)
          have f1 := HE.out.f y (by omega)
          have f2 := HE.out.f z (by omega)
          have q0 : decide ((a : Int) < (y : Int)) = true := decide_eq_true (by omega)
          have ez : (y : Int) - 1 = (z : Int) := by omega
          cases hq : ltU e'[y]! e'[z]!
          · have CL := Lib.hid (fun w' => sLessB _ _ _ hq w')
            have HX := Lib.hid (show insInner ltU a y e' = e' by rw [hz]; unfold insInner; rw [← hz, hq, Bool.and_false]; rfl)
            clear hq hz
            go_wp2_with fail
            refine wp_region_quiet_below (by kernel_rfl) (by kernel_rfl) ?_
            repeat (go_big_quiet_step (first | (go_at_call 82; exact Calls.regrown_of (CL.out _))))
            refine wpQuiet_nil ?_
            intro _ hw'
            obtain ⟨⟨dq, osq⟩, hw''⟩ := hw'
            subst hw''
            have hb1 := below_regrown wr dq osq
            have E1 := HE.out.below hb1
            have ho3 := HO2.out.trans (Off.ofBelow hb1)
            have HR2 := Lib.hid (show insOuter ltU a b (x + 1) e' = insertionSort ltU d a b by rw [← HR.out, ← hI.out, HX.out])
            clear hb1
            go_wp2_with fail
            go_roundw
            case rel => exact ⟨x + 1, e', by omega, by omega, by go_num, E1, hs2, HR2.out, ho3⟩
            case measure => simp [intOf]; omega
          · have CL := Lib.hid (fun w' => sLessB _ _ _ hq w')
            have HX := Lib.hid (show insInner ltU a y e' = insInner ltU a z (swp e' y z) by
              rw [hz]; conv => lhs; unfold insInner
              rw [← hz, hq, decide_eq_true (show y > a from hya)]; rfl)
            clear hq hz
            go_wp2_with fail
            refine wp_region_quiet_below (by kernel_rfl) (by kernel_rfl) ?_
            repeat (go_big_quiet_step (first | (go_at_call 82; exact Calls.regrown_of (CL.out _))))
            refine wpQuiet_nil ?_
            intro _ hw'
            obtain ⟨⟨dq, osq⟩, hw''⟩ := hw'
            subst hw''
            have hb1 := below_regrown wr dq osq
            have E1 := HE.out.below hb1
            have ho3 := HO2.out.trans (Off.ofBelow hb1)
            have hl1 := E1.lt
            clear hb1 c1 c2 f1 f2
            generalize grow (redrawn wr dq) osq = W1 at *
            have c1 := E1.c y (by omega)
            have c2 := E1.c z (by omega)
            have f1 := E1.f y (by omega)
            have f2 := E1.f z (by omega)
            have E2 := Lib.hid ((E1.swap y z (by omega) (by omega)).kept (w' := ((W1.setCell ⟨g, y, none⟩ (.int .u32 e'[z]!)).setCell ⟨g, z, none⟩ (.int .u32 e'[y]!)).drew) rfl (Nat.le_refl _))
            have O2 := Lib.hid ((ho3.trans (off_swap W1 g y z (.int .u32 e'[z]!) (.int .u32 e'[y]!))).trans (off_drew _))
            have HI2 := Lib.hid (HX.out.symm.trans hI.out)
            clear E1 ho3 HX hg
            go_wp2_with fail
            go_region
            go_wp2_with fail
            go_roundw
            case rel => exact ⟨z, swp e' y z, by omega, by go_num, E2.out, by rw [swp_size]; exact hs2, HI2, O2.out⟩
            case measure => simp [intOf]; omega
        · have q0 : decide ((a : Int) < (y : Int)) = false := decide_eq_false (by omega)
          have HX := Lib.hid (show insInner ltU a y e' = e' by
            cases y with
            | zero => rfl
            | succ z => unfold insInner; rw [decide_eq_false (show ¬ z + 1 > a by omega), Bool.false_and]; rfl)
          go_wp2_with fail
          refine wp_region_quiet_below (by kernel_rfl) (by kernel_rfl) ?_
          repeat (go_big_quiet_step (fail))
          refine wpQuiet_nil ?_
          intro _ hw'
          obtain ⟨⟨dq, osq⟩, hw''⟩ := hw'
          subst hw''
          have hb1 := below_regrown wr dq osq
          have E1 := HE.out.below hb1
          have ho3 := HO2.out.trans (Off.ofBelow hb1)
          have HR2 := Lib.hid (show insOuter ltU a b (x + 1) e' = insertionSort ltU d a b by rw [← HR.out, ← hI.out, HX.out])
          clear hb1
          go_wp2_with fail
          go_roundw
          case rel => exact ⟨x + 1, e', by omega, by omega, by go_num, E1, hs2, HR2.out, ho3⟩
          case measure => simp [intOf]; omega
    · have HX := Lib.hid (show d' = insertionSort ltU d a b by rw [insOuter.eq_def, if_neg hlt] at hR; exact hR)
      clear hR
      go_wp2_with fail
      go_end0
      exact ⟨rfl, by rw [← HX.out]; exact hD, ho⟩
end Go.Proofs.Ytafegmmcgghgaaa.B
