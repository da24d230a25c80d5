/- The document's file: Define. -/
import Derived.Test.YtfhggmiaablcnaaAR4
namespace Go.Proofs.Ytfhggmiaablcnaa.B
set_option linter.unusedVariables false
set_option linter.unusedSimpArgs false
open Go.ChangeShapes Go.WideShapes Go.RowKit Go.Sort
def insA (x : Int) (r : Rg) : List (Int × Rg) → List (Int × Rg)
  | [] => [(x, r)]
  | p :: L => if x < p.1 then (x, r) :: p :: L else p :: insA x r L
theorem aDefineBad (off : Int) (r : Rg) (v : Value) (w : World) (h0 : 0 ≤ off) (h : (off % 4 != 0) = true) :
    Calls Try.prog 6 #[v, .int .u32 off, r.val] w fun e w' => e = .returned (.tuple #[v, .int .i64 11]) ∧ Below w.heap.size w w' := by
  unfold Rg.val
  go_enter Try.func6, Try.ntmps6
  go_wp2_with fail
  refine (aFindBad off v _ h0 h).mono ?_
  rintro e w' ⟨rfl, rfl⟩
  go_wp2_with fail
  go_ret2
  exact ⟨rfl, trA (tr0 w) _⟩
theorem aDefineMeet (off : Int) (i : Nat) (r x : Rg) {B g cap : Nat} {L : List (Int × Rg)} {w : World} (h0 : 0 ≤ off) (h : (off % 4 != 0) = false) (hO : OwnA w B (.slice (some ⟨g, 0, none⟩) L.length cap) L) (hc : L.length ≤ cap) (hm : cap ≤ maxLen) (hi : L[i]? = some (off, x)) (hn : (L.map (·.1)).Nodup) (hl : L.length < 100000) :
    Calls Try.prog 6 #[.slice (some ⟨g, 0, none⟩) L.length cap, .int .u32 off, r.val] w fun e w' => e = .returned (.tuple #[.slice (some ⟨g, 0, none⟩) L.length cap, .int .i64 15]) ∧ Below w.heap.size w w' := by
  have C := Lib.hid (aFind off i x h0 h (hO.below (trA (tr0 w) (.cells #[.int .u32 r.v, .int .u32 r.s, .int .u32 r.r, .int .u32 r.c] 33 (0, 0)))) hc hm hi hn hl)
  clear hO hi hn
  unfold Rg.val
  go_enter Try.func6, Try.ntmps6
  go_wp2_with fail
  refine C.out.mono ?_
  rintro e w' ⟨rfl, rfl⟩
  go_wp2_with fail
  go_ret2
  exact ⟨rfl, trA (tr0 w) _⟩
/-- Where the loop stands. -/
def InsSo (x : Int) (r : Rg) (L X : List (Int × Rg)) (i : Nat) (b : Bool) : Prop := (b = false ∧ X = L.take i ∧ insA x r L = L.take i ++ insA x r (L.drop i)) ∨ (b = true ∧ X ++ L.drop i = insA x r L)
theorem ins_start (x : Int) (r : Rg) (L : List (Int × Rg)) : InsSo x r L [] 0 false := .inl ⟨rfl, by simp, by simp⟩
theorem ins_len {x : Int} {r : Rg} {L X : List (Int × Rg)} {i : Nat} {b : Bool} (h : InsSo x r L X i b) (hi : i ≤ L.length) : X.length ≤ L.length + 1 := by
  have hl : ∀ M : List (Int × Rg), (insA x r M).length = M.length + 1 := by
    intro M
    induction M with
    | nil => rfl
    | cons p M ih => unfold insA; split <;> simp [ih]
  rcases h with ⟨_, rfl, _⟩ | ⟨_, h⟩
  · simp; omega
  · have := congrArg List.length h
    rw [hl] at this
    simp at this; omega
theorem ins_yes {x : Int} {r : Rg} {L X : List (Int × Rg)} {i : Nat} {p : Int × Rg} (h : InsSo x r L X i false) (hp : L[i]? = some p) (hx : x < p.1) : InsSo x r L (X ++ [(x, r)] ++ [p]) (i + 1) true := by
  have hil : i < L.length := (List.getElem?_eq_some_iff.1 hp).1
  have hd : L.drop i = p :: L.drop (i + 1) := by rw [List.drop_eq_getElem_cons hil, (List.getElem?_eq_some_iff.1 hp).2]
  rcases h with ⟨_, rfl, h⟩ | ⟨h, _⟩
  · refine .inr ⟨rfl, ?_⟩
    rw [h, hd]; unfold insA; rw [if_pos hx]; simp
  · cases h
theorem ins_no {x : Int} {r : Rg} {L X : List (Int × Rg)} {i : Nat} {p : Int × Rg} (h : InsSo x r L X i false) (hp : L[i]? = some p) (hx : ¬ x < p.1) : InsSo x r L (X ++ [p]) (i + 1) false := by
  have hil : i < L.length := (List.getElem?_eq_some_iff.1 hp).1
  have hd : L.drop i = p :: L.drop (i + 1) := by rw [List.drop_eq_getElem_cons hil, (List.getElem?_eq_some_iff.1 hp).2]
  have ht : L.take (i + 1) = L.take i ++ [p] := by rw [List.take_add_one, hp]; rfl
  rcases h with ⟨_, rfl, h⟩ | ⟨h, _⟩
  · refine .inl ⟨rfl, ht.symm, ?_⟩
    conv => lhs; rw [h, hd]; unfold insA
    rw [if_neg hx, ht]; simp
  · cases h
theorem ins_on {x : Int} {r : Rg} {L X : List (Int × Rg)} {i : Nat} {p : Int × Rg} (h : InsSo x r L X i true) (hp : L[i]? = some p) : InsSo x r L (X ++ [p]) (i + 1) true := by
  have hil : i < L.length := (List.getElem?_eq_some_iff.1 hp).1
  have hd : L.drop i = p :: L.drop (i + 1) := by rw [List.drop_eq_getElem_cons hil, (List.getElem?_eq_some_iff.1 hp).2]
  rcases h with ⟨h, _⟩ | ⟨_, h⟩
  · cases h
  · exact .inr ⟨rfl, by rw [← h, hd]; simp⟩
theorem ins_end {x : Int} {r : Rg} {L X : List (Int × Rg)} {b : Bool} (h : InsSo x r L X L.length b) : (b = false ∧ X ++ [(x, r)] = insA x r L) ∨ (b = true ∧ X = insA x r L) := by
  rcases h with ⟨rfl, rfl, h⟩ | ⟨rfl, h⟩
  · exact .inl ⟨rfl, by rw [h]; simp [insA]⟩
  · exact .inr ⟨rfl, by simpa using h⟩
set_option maxRecDepth 100000 in
set_option maxHeartbeats 3200000 in
theorem aDefine0 (off : Int) (r : Rg) {w : World} (h0 : 0 ≤ off) (h : (off % 4 != 0) = false) :
    Calls Try.prog 6 #[.slice none 0 0, .int .u32 off, r.val] w fun e w' => ∃ v', e = .returned (.tuple #[v', .int .i64 0]) ∧ OwnA w' w.heap.size v' (insA off r []) ∧ Below w.heap.size w w' := by
  have hb1 := trA (tr0 w) (.cells #[.int .u32 r.v, .int .u32 r.s, .int .u32 r.r, .int .u32 r.c] 33 (0, 0))
  have hX := blk_new w (.cells #[.int .u32 r.v, .int .u32 r.s, .int .u32 r.r, .int .u32 r.c] 33 (0, 0))
  have C := Lib.hid (fun w' => aFindNone (L := []) (w := w') off h0 h (ownA_nil w' 0) (by simp) (by simp))
  have hs1 := lt_of_block hX
  unfold Rg.val
  go_enter Try.func6, Try.ntmps6
  go_upto_region 1 with (fail)
  generalize w.alloc (.cells #[.int .u32 r.v, .int .u32 r.s, .int .u32 r.r, .int .u32 r.c] 33 (0, 0)) = W at *
  go_wp2_with fail
  refine (C.out _).mono ?_
  rintro e w' ⟨rfl, rfl⟩
  clear C
  go_wp2_with fail
  go_loopw [10, 11, 12] (fun u b i wr => i = .int .i64 0 ∧ b = .bool false ∧ OwnA wr w.heap.size u [] ∧ wr.heap[w.heap.size]? = some (.cells #[.int .u32 r.v, .int .u32 r.s, .int .u32 r.r, .int .u32 r.c] 33 (0, 0)) ∧ Below w.heap.size w wr) (fun _ _ _ _ => 0)
  case atStart => exact ⟨rfl, rfl, ownA_nil _ _, hX, hb1⟩
  case round =>
    clear hX hb1
    obtain ⟨rfl, rfl, O, hX, hB2⟩ := hrel
    have y0 := blk_cell hX 0
    have y1 := blk_cell hX 1
    have y2 := blk_cell hX 2
    have y3 := blk_cell hX 3
    simp only [List.getElem?_toArray, List.getElem?_cons_zero, List.getElem?_cons_succ] at y0 y1 y2 y3
    have hY := blk_new wr (.cells (al (off, r)).toArray 81 (0, 0))
    have hbA := trA (tr0 wr) (.cells (al (off, r)).toArray 81 (0, 0))
    have hb2 := tr hB2 hbA
    have hbs := hb2.size
    have OV := O.below hbA
    clear O hbA hX hB2
    go_wp2_with (refine appendA rfl (.tmp 58) (.tmp 62) rfl rfl OV rfl hY (by decide) hbs ?_; intro v' w5 O5 ho5)
    have B5 := Off.toBelow hb2 ho5 (fun b hb e => by have := (OV.block e).1; omega) (Nat.le_refl _)
    go_ret2
    exact ⟨_, rfl, O5, B5⟩
set_option maxRecDepth 100000 in
set_option maxHeartbeats 3200000 in
theorem aDefine1 (off : Int) (r : Rg) {B g cap : Nat} {L : List (Int × Rg)} {w : World} (h0 : 0 ≤ off) (h : (off % 4 != 0) = false) (hcm : cap ≤ maxLen) (hnc : L.length ≤ cap) (hO : OwnA w B (.slice (some ⟨g, 0, none⟩) L.length cap) L) (hno : ∀ p ∈ L, p.1 ≠ off) (hl : L.length < 90000) :
    Calls Try.prog 6 #[.slice (some ⟨g, 0, none⟩) L.length cap, .int .u32 off, r.val] w fun e w' => ∃ v', e = .returned (.tuple #[v', .int .i64 0]) ∧ OwnA w' w.heap.size v' (insA off r L) ∧ Below w.heap.size w w' := by
  have hb1 := trA (tr0 w) (.cells #[.int .u32 r.v, .int .u32 r.s, .int .u32 r.r, .int .u32 r.c] 33 (0, 0))
  have hX := blk_new w (.cells #[.int .u32 r.v, .int .u32 r.s, .int .u32 r.r, .int .u32 r.c] 33 (0, 0))
  have O1 := hO.below hb1
  have C := Lib.hid (aFindNone off h0 h O1 hno (by omega))
  have hs1 := lt_of_block hX
  have hgw : ∀ b, (Value.slice (some ⟨g, 0, none⟩) L.length cap).ownBlock = some b → b < w.heap.size := fun b hb => (hO.block hb).2
  have hgl := (O1.block rfl).2
  clear hO hno
  unfold Rg.val
  go_enter Try.func6, Try.ntmps6
  go_upto_region 1 with (fail)
  generalize w.alloc (.cells #[.int .u32 r.v, .int .u32 r.s, .int .u32 r.r, .int .u32 r.c] 33 (0, 0)) = W at *
  go_wp2_with fail
  refine C.out.mono ?_
  rintro e w' ⟨rfl, rfl⟩
  unfold maxLen at hcm
  go_wp2_with fail
  go_loopw [10, 11, 12] (fun u b i wr => ∃ (k : Nat) (pt : Bool) (X : List (Int × Rg)), k ≤ L.length ∧ i = .int .i64 k ∧ b = .bool pt ∧ Hid (InsSo off r L X k pt) ∧ OwnA wr (w.heap.size + 1) u X ∧ OwnA wr B (.slice (some ⟨g, 0, none⟩) L.length cap) L ∧ Below w.heap.size w wr ∧ wr.heap[w.heap.size]? = some (.cells #[.int .u32 r.v, .int .u32 r.s, .int .u32 r.r, .int .u32 r.c] 33 (0, 0))) (fun u b i wr => L.length - (intOf i).toNat)
  case atStart => exact ⟨0, false, [], by omega, rfl, rfl, Lib.hid (ins_start off r L), ownA_nil _ _, O1, hb1, hX⟩
  case round =>
    clear C O1 hb1 hX
    obtain ⟨k, pt, X, hk, rfl, rfl, HI, O, HL, hB2, hX⟩ := hrel
    by_cases hlt : k < L.length
    · obtain ⟨p, hp⟩ : ∃ p, L[k]? = some p := ⟨L[k], List.getElem?_eq_getElem hlt⟩
      have hlen := ins_len HI.out hk
      have HP := Lib.hid hp
      have c0 := HL.cell hp 0 (by decide)
      have c1 := HL.cell hp 1 (by decide)
      have c2 := HL.cell hp 2 (by decide)
      have c3 := HL.cell hp 3 (by decide)
      have c4 := HL.cell hp 4 (by decide)
      simp only [al, List.getElem?_cons_zero, List.getElem?_cons_succ, Nat.add_zero] at c0 c1 c2 c3 c4
      clear hp
      obtain ⟨po, ⟨pa, ps, pw, pc⟩⟩ := p
      simp only at c0 c1 c2 c3 c4
      have hwl := lt_of_block hX
      cases pt
      · by_cases hx : off < po
        · have y0 := blk_cell hX 0
          have y1 := blk_cell hX 1
          have y2 := blk_cell hX 2
          have y3 := blk_cell hX 3
          simp only [List.getElem?_toArray, List.getElem?_cons_zero, List.getElem?_cons_succ] at y0 y1 y2 y3
          have HI2 := Lib.hid (ins_yes HI.out HP.out hx)
          have hbA := trA (tr0 wr) (.cells (al (off, r)).toArray 81 (0, 0))
          have OO := O.below hbA
          have HL2 := HL.below hbA
          have hX2 := blk_below hbA hX hwl
          have hY := blk_new wr (.cells (al (off, r)).toArray 81 (0, 0))
          have hb2 := tr hB2 hbA
          have hbs : w.heap.size + 1 ≤ (wr.alloc (.cells (al (off, r)).toArray 81 (0, 0))).heap.size := by have := hbA.size; omega
          have hgd : ∀ b, g = b → B ≤ b ∧ b < wr.heap.size := fun b e => by subst e; exact HL.block rfl
          clear O HL hX hB2 hbA HI
          go_upto_region 13 with (refine appendA rfl (.tmp 43) (.tmp 47) rfl rfl OO rfl hY (by omega) hbs ?_; intro v' w5 O5 ho5)
          have HL5 := HL2.off ho5 (fun q e hS => by have h1 := (OO.block hS).1; have h2 := hgw q e; omega)
          have hX5 := ho5.at hX2 (fun hS => by have h1 := (OO.block hS).1; omega)
          have B5 := Off.toBelow hb2 ho5 (fun q hq e => by have := (OO.block e).1; omega) (Nat.le_refl _)
          have hs5 : w.heap.size + 1 ≤ w5.heap.size := by have := lt_of_block hX5; omega
          clear HL2 hX2 OO ho5 hb2 hY c0 c1 c2 c3 c4
          have c0 := HL5.cell HP.out 0 (by decide)
          have c1 := HL5.cell HP.out 1 (by decide)
          have c2 := HL5.cell HP.out 2 (by decide)
          have c3 := HL5.cell HP.out 3 (by decide)
          have c4 := HL5.cell HP.out 4 (by decide)
          simp only [al, List.getElem?_cons_zero, List.getElem?_cons_succ, Nat.add_zero] at c0 c1 c2 c3 c4
          have hbC := trA (tr0 w5) (.cells (al (po, ⟨pa, ps, pw, pc⟩)).toArray 81 (0, 0))
          have P5 := O5.below hbC
          have HL6 := HL5.below hbC
          have hX6 := blk_below hbC hX5 (lt_of_block hX5)
          have hZ := blk_new w5 (.cells (al (po, ⟨pa, ps, pw, pc⟩)).toArray 81 (0, 0))
          have hb6 := tr B5 hbC
          have hbt : w.heap.size + 1 ≤ (w5.alloc (.cells (al (po, ⟨pa, ps, pw, pc⟩)).toArray 81 (0, 0))).heap.size := by have := hbC.size; omega
          clear O5 HL5 hX5 B5 hbC y0 y1 y2 y3
          go_wp2_with (refine appendA rfl (.tmp 49) (.tmp 54) rfl rfl P5 rfl hZ (by simp; omega) hbt ?_; intro v7 w7 O7 ho7)
          have HL7 := HL6.off ho7 (fun q e hS => by have h1 := (P5.block hS).1; have h2 := hgw q e; omega)
          have hX7 := ho7.at hX6 (fun hS => by have h1 := (P5.block hS).1; omega)
          have B7 := Off.toBelow hb6 ho7 (fun q hq e => by have := (P5.block e).1; omega) (Nat.le_refl _)
          clear HL6 hX6 P5 ho7 hb6 hZ
          go_wp2_with fail
          go_roundw
          case measure => simp [intOf]; omega
          case rel => exact ⟨k + 1, true, _, by omega, by first | rfl | go_num, by first | rfl | go_num, HI2, O7, HL7, B7, hX7⟩
        · have HI2 := Lib.hid (ins_no HI.out HP.out hx)
          have hbC := trA (tr0 wr) (.cells (al (po, ⟨pa, ps, pw, pc⟩)).toArray 81 (0, 0))
          have P5 := O.below hbC
          have HL6 := HL.below hbC
          have hX6 := blk_below hbC hX hwl
          have hZ := blk_new wr (.cells (al (po, ⟨pa, ps, pw, pc⟩)).toArray 81 (0, 0))
          have hb6 := tr hB2 hbC
          have hbt : w.heap.size + 1 ≤ (wr.alloc (.cells (al (po, ⟨pa, ps, pw, pc⟩)).toArray 81 (0, 0))).heap.size := by have := hbC.size; omega
          clear O HL hX hB2 hbC HI
          go_wp2_with (refine appendA rfl (.tmp 49) (.tmp 54) rfl rfl P5 rfl hZ (by omega) hbt ?_; intro v7 w7 O7 ho7)
          have HL7 := HL6.off ho7 (fun q e hS => by have h1 := (P5.block hS).1; have h2 := hgw q e; omega)
          have hX7 := ho7.at hX6 (fun hS => by have h1 := (P5.block hS).1; omega)
          have B7 := Off.toBelow hb6 ho7 (fun q hq e => by have := (P5.block e).1; omega) (Nat.le_refl _)
          clear HL6 hX6 P5 ho7 hb6 hZ
          go_wp2_with fail
          go_roundw
          case measure => simp [intOf]; omega
          case rel => exact ⟨k + 1, false, _, by omega, by first | rfl | go_num, by first | rfl | go_num, HI2, O7, HL7, B7, hX7⟩
      · have HI2 := Lib.hid (ins_on HI.out HP.out)
        have hbC := trA (tr0 wr) (.cells (al (po, ⟨pa, ps, pw, pc⟩)).toArray 81 (0, 0))
        have P5 := O.below hbC
        have HL6 := HL.below hbC
        have hX6 := blk_below hbC hX hwl
        have hZ := blk_new wr (.cells (al (po, ⟨pa, ps, pw, pc⟩)).toArray 81 (0, 0))
        have hb6 := tr hB2 hbC
        have hbt : w.heap.size + 1 ≤ (wr.alloc (.cells (al (po, ⟨pa, ps, pw, pc⟩)).toArray 81 (0, 0))).heap.size := by have := hbC.size; omega
        clear O HL hX hB2 hbC HI
        go_wp2_with (refine appendA rfl (.tmp 49) (.tmp 54) rfl rfl P5 rfl hZ (by omega) hbt ?_; intro v7 w7 O7 ho7)
        have HL7 := HL6.off ho7 (fun q e hS => by have h1 := (P5.block hS).1; have h2 := hgw q e; omega)
        have hX7 := ho7.at hX6 (fun hS => by have h1 := (P5.block hS).1; omega)
        have B7 := Off.toBelow hb6 ho7 (fun q hq e => by have := (P5.block e).1; omega) (Nat.le_refl _)
        clear HL6 hX6 P5 ho7 hb6 hZ
        go_wp2_with fail
        go_roundw
        case measure => simp [intOf]; omega
        case rel => exact ⟨k + 1, true, _, by omega, by first | rfl | go_num, by first | rfl | go_num, HI2, O7, HL7, B7, hX7⟩
    · obtain rfl : k = L.length := by omega
      rcases ins_end HI.out with ⟨rfl, hE⟩ | ⟨rfl, hE⟩
      · have y0 := blk_cell hX 0
        have y1 := blk_cell hX 1
        have y2 := blk_cell hX 2
        have y3 := blk_cell hX 3
        simp only [List.getElem?_toArray, List.getElem?_cons_zero, List.getElem?_cons_succ] at y0 y1 y2 y3
        have HE := Lib.hid hE
        have hlen := ins_len HI.out (Nat.le_refl _)
        have hbA := trA (tr0 wr) (.cells (al (off, r)).toArray 81 (0, 0))
        have OO := O.below hbA
        have hY := blk_new wr (.cells (al (off, r)).toArray 81 (0, 0))
        have hb2 := tr hB2 hbA
        have hbs : w.heap.size + 1 ≤ (wr.alloc (.cells (al (off, r)).toArray 81 (0, 0))).heap.size := by have := lt_of_block hX; have := hbA.size; omega
        clear hE O HL hX hB2 hbA HI
        go_wp2_with (refine appendA rfl (.tmp 58) (.tmp 62) rfl rfl OO rfl hY (by omega) hbs ?_; intro v' w5 O5 ho5)
        have B5 := Off.toBelow hb2 ho5 (fun b hb e => by have := (OO.block e).1; omega) (Nat.le_refl _)
        rw [HE.out] at O5
        have O6 : OwnA w5 w.heap.size v' (insA off r L) := O5.base (fun b hb => by have := (O5.block hb).1; omega)
        go_ret2
        exact ⟨_, rfl, O6, B5⟩
      · subst hE
        have O6 := O.base (C := w.heap.size) (fun b hb => by have := (O.block hb).1; omega)
        go_wp2_with fail
        go_ret2
        exact ⟨_, rfl, O6, hB2⟩
theorem aDefine (off : Int) (r : Rg) {B : Nat} {v : Value} {L : List (Int × Rg)} {w : World} (h0 : 0 ≤ off) (h : (off % 4 != 0) = false) (hO : OwnA w B v L) (hno : ∀ p ∈ L, p.1 ≠ off) (hl : L.length < 90000) :
    Calls Try.prog 6 #[v, .int .u32 off, r.val] w fun e w' => ∃ v', e = .returned (.tuple #[v', .int .i64 0]) ∧ OwnA w' w.heap.size v' (insA off r L) ∧ Below w.heap.size w w' := by
  rcases hO.cases with ⟨rfl, rfl⟩ | ⟨g, cap, rfl, hB, hnc, hcm, hgl, _⟩
  · exact aDefine0 off r h0 h
  · exact aDefine1 off r h0 h hcm hnc hO hno hl
end Go.Proofs.Ytfhggmiaablcnaa.B
