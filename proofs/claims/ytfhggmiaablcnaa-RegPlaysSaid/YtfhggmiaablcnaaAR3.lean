/- The document's file: Write, Bits. -/
import Derived.Test.YtfhggmiaablcnaaAR2
import Derived.Test.YtfhggmiaablcnaaRRef
import Derived.Test.YtfhggmiaablcnaaFileT
namespace Go.Proofs.Ytfhggmiaablcnaa.B
set_option linter.unusedVariables false
set_option linter.unusedSimpArgs false
open Go.ChangeShapes Go.WideShapes Go.RowKit Go.Sort
section
variable {B g cap : Nat} {v : Value} {L : List (Int × Rg)} {w : World}
theorem aBitsBad (off u d : Int) (v : Value) (w : World) (h0 : 0 ≤ off) (h : (off % 4 != 0) = true) :
    Calls Try.prog 12 #[v, .int .u32 off, .int .u32 u, .int .u32 d] w fun e w' => e = .returned (.tuple #[v, .int .i64 11]) ∧ w = w' := by
  go_enter Try.func12, Try.ntmps12
  go_wp2_with fail
  refine (aFindBad off v w h0 h).mono ?_
  rintro e w' ⟨rfl, rfl⟩
  go_wp2_with fail
  go_ret2
  exact ⟨rfl, rfl⟩
theorem aBitsNone (off u d : Int) (h0 : 0 ≤ off) (h : (off % 4 != 0) = false) (hO : OwnA w B v L) (hno : ∀ p ∈ L, p.1 ≠ off) (hl : L.length < 100000) :
    Calls Try.prog 12 #[v, .int .u32 off, .int .u32 u, .int .u32 d] w fun e w' => e = .returned (.tuple #[v, .int .i64 10]) ∧ w = w' := by
  have C := Lib.hid (aFindNone off h0 h hO hno hl)
  clear hO hno
  go_enter Try.func12, Try.ntmps12
  go_wp2_with fail
  refine C.out.mono ?_
  rintro e w' ⟨rfl, rfl⟩
  go_wp2_with fail
  go_ret2
  exact ⟨rfl, rfl⟩
theorem aBits (off : Int) (i : Nat) (r : Rg) (u d : Int) (u0 : 0 ≤ u) (u1 : u < 4294967296) (d0 : 0 ≤ d) (d1 : d < 4294967296) (hr : r.wf) (h0 : 0 ≤ off) (h : (off % 4 != 0) = false) (hO : OwnA w B (.slice (some ⟨g, 0, none⟩) L.length cap) L) (hc : L.length ≤ cap) (hm : cap ≤ maxLen) (hi : L[i]? = some (off, r)) (hn : (L.map (·.1)).Nodup) (hl : L.length < 100000) :
    Calls Try.prog 12 #[.slice (some ⟨g, 0, none⟩) L.length cap, .int .u32 off, .int .u32 u, .int .u32 d] w
      fun e w' => ∃ g' cap', e = .returned (.tuple #[.slice (some ⟨g', 0, none⟩) L.length cap', .int .i64 0]) ∧ OwnA w' w.heap.size (.slice (some ⟨g', 0, none⟩) L.length cap') (L.set i (off, r.turn u d)) ∧ L.length ≤ cap' ∧ cap' ≤ maxLen ∧ Below w.heap.size w w' := by
  have C := Lib.hid (aFind off i r h0 h hO hc hm hi hn hl)
  have c1 := hO.cell hi 1 (by decide)
  have c2 := hO.cell hi 2 (by decide)
  have c3 := hO.cell hi 3 (by decide)
  have c4 := hO.cell hi 4 (by decide)
  simp only [al, List.getElem?_cons_zero, List.getElem?_cons_succ] at c1 c2 c3 c4
  have hil : i < L.length := (List.getElem?_eq_some_iff.1 hi).1
  have CW := Lib.hid (fun (w1 : World) (hO1 : OwnA w1 B (.slice (some ⟨g, 0, none⟩) L.length cap) L) => aWith off i (r.turn u d) r hO1 hc hm hi hl)
  have HO := Lib.hid hO
  unfold maxLen at hm
  clear hO hi hn
  obtain ⟨a, s, wr, cl⟩ := r
  obtain ⟨⟨a0, a1⟩, ⟨s0, s1⟩, ⟨r0, r1⟩, ⟨e0, e1⟩⟩ := hr
  simp only at a0 a1 s0 s1 r0 r1 e0 e1 c1 c2 c3 c4
  have CT := Lib.hid (rTurn a s wr cl u d w a0 a1 u0 u1 d0 d1)
  unfold Rg.turn Rg.val at CW
  unfold Rg.turn
  simp only at CW ⊢
  go_enter Try.func12, Try.ntmps12
  go_wp2_with fail
  refine C.out.mono ?_
  rintro e w' ⟨rfl, rfl⟩
  go_wp2_with fail
  refine CT.out.mono ?_
  rintro e w1 ⟨rfl, hb⟩
  go_wp2_with fail
  refine (CW.out _ (HO.out.below hb)).mono ?_
  rintro e w2 ⟨g', cap', rfl, O2, hc2, hm2, hb2⟩
  have B2 := tr hb hb2
  have O3 := O2.base (fun k hk => Nat.le_trans hb.size (O2.block hk).1)
  clear O2 hb hb2
  go_wp2_with fail
  go_ret2
  exact ⟨g', cap', rfl, O3, hc2, hm2, B2⟩
theorem aWriteBad (off x : Int) (v : Value) (w : World) (h0 : 0 ≤ off) (h : (off % 4 != 0) = true) :
    Calls Try.prog 10 #[v, .int .u32 off, .int .u32 x] w fun e w' => e = .returned (.tuple #[v, .int .i64 11]) ∧ w = w' := by
  go_enter Try.func10, Try.ntmps10
  go_wp2_with fail
  refine (aFindBad off v w h0 h).mono ?_
  rintro e w' ⟨rfl, rfl⟩
  go_wp2_with fail
  go_ret2
  exact ⟨rfl, rfl⟩
theorem aWriteNone (off x : Int) (h0 : 0 ≤ off) (h : (off % 4 != 0) = false) (hO : OwnA w B v L) (hno : ∀ p ∈ L, p.1 ≠ off) (hl : L.length < 100000) :
    Calls Try.prog 10 #[v, .int .u32 off, .int .u32 x] w fun e w' => e = .returned (.tuple #[v, .int .i64 10]) ∧ w = w' := by
  have C := Lib.hid (aFindNone off h0 h hO hno hl)
  clear hO hno
  go_enter Try.func10, Try.ntmps10
  go_wp2_with fail
  refine C.out.mono ?_
  rintro e w' ⟨rfl, rfl⟩
  go_wp2_with fail
  go_ret2
  exact ⟨rfl, rfl⟩
theorem aWrite (off : Int) (i : Nat) (r : Rg) (x : Int) (x0 : 0 ≤ x) (x1 : x < 4294967296) (ho : only r.r r.c = false) (hr : r.wf) (h0 : 0 ≤ off) (h : (off % 4 != 0) = false) (hO : OwnA w B (.slice (some ⟨g, 0, none⟩) L.length cap) L) (hc : L.length ≤ cap) (hm : cap ≤ maxLen) (hi : L[i]? = some (off, r)) (hn : (L.map (·.1)).Nodup) (hl : L.length < 100000) :
    Calls Try.prog 10 #[.slice (some ⟨g, 0, none⟩) L.length cap, .int .u32 off, .int .u32 x] w
      fun e w' => ∃ g' cap', e = .returned (.tuple #[.slice (some ⟨g', 0, none⟩) L.length cap', .int .i64 0]) ∧ OwnA w' w.heap.size (.slice (some ⟨g', 0, none⟩) L.length cap') (L.set i (off, r.put x)) ∧ L.length ≤ cap' ∧ cap' ≤ maxLen ∧ Below w.heap.size w w' := by
  have C := Lib.hid (aFind off i r h0 h hO hc hm hi hn hl)
  have c1 := hO.cell hi 1 (by decide)
  have c2 := hO.cell hi 2 (by decide)
  have c3 := hO.cell hi 3 (by decide)
  have c4 := hO.cell hi 4 (by decide)
  simp only [al, List.getElem?_cons_zero, List.getElem?_cons_succ] at c1 c2 c3 c4
  have hil : i < L.length := (List.getElem?_eq_some_iff.1 hi).1
  have CW := Lib.hid (fun (w1 : World) (hO1 : OwnA w1 B (.slice (some ⟨g, 0, none⟩) L.length cap) L) => aWith off i (r.put x) r hO1 hc hm hi hl)
  have HO := Lib.hid hO
  have HI := Lib.hid hi
  unfold maxLen at hm
  clear hO hi hn
  obtain ⟨a, s, wr, cl⟩ := r
  obtain ⟨⟨a0, a1⟩, ⟨s0, s1⟩, ⟨r0, r1⟩, ⟨e0, e1⟩⟩ := hr
  simp only at a0 a1 s0 s1 r0 r1 e0 e1 c1 c2 c3 c4 ho
  have CN := Lib.hid (by have := rOnly a s wr cl w; rw [ho] at this; exact this)
  have CT := Lib.hid (fun w => rStore a s wr cl x w a0 a1 r0 r1 e0 e1 x0 x1)
  unfold Rg.put Rg.val at CW
  unfold Rg.put
  simp only at CW ⊢
  go_enter Try.func10, Try.ntmps10
  go_wp2_with fail
  refine C.out.mono ?_
  rintro e w' ⟨rfl, rfl⟩
  go_wp2_with fail
  refine CN.out.mono ?_
  rintro e w0 ⟨rfl, hb0⟩
  have hO0 := HO.out.below hb0
  have c1 := hO0.cell HI.out 1 (by decide)
  have c2 := hO0.cell HI.out 2 (by decide)
  have c3 := hO0.cell HI.out 3 (by decide)
  have c4 := hO0.cell HI.out 4 (by decide)
  simp only [al, List.getElem?_cons_zero, List.getElem?_cons_succ] at c1 c2 c3 c4
  have HO0 := Lib.hid hO0
  clear hO0
  go_wp2_with fail
  refine (CT.out _).mono ?_
  rintro e w1 ⟨rfl, hb⟩
  have hb := tr hb0 hb
  clear hb0
  go_wp2_with fail
  refine (CW.out _ (HO.out.below hb)).mono ?_
  rintro e w2 ⟨g', cap', rfl, O2, hc2, hm2, hb2⟩
  have B2 := tr hb hb2
  have O3 := O2.base (fun k hk => Nat.le_trans hb.size (O2.block hk).1)
  clear O2 hb hb2
  go_wp2_with fail
  go_ret2
  exact ⟨g', cap', rfl, O3, hc2, hm2, B2⟩
theorem aWriteOnly (off : Int) (i : Nat) (r : Rg) (x : Int) (x0 : 0 ≤ x) (x1 : x < 4294967296) (ho : only r.r r.c = true) (hr : r.wf) (h0 : 0 ≤ off) (h : (off % 4 != 0) = false) (hO : OwnA w B (.slice (some ⟨g, 0, none⟩) L.length cap) L) (hc : L.length ≤ cap) (hm : cap ≤ maxLen) (hi : L[i]? = some (off, r)) (hn : (L.map (·.1)).Nodup) (hl : L.length < 100000) :
    Calls Try.prog 10 #[.slice (some ⟨g, 0, none⟩) L.length cap, .int .u32 off, .int .u32 x] w fun e w' => e = .returned (.tuple #[.slice (some ⟨g, 0, none⟩) L.length cap, .int .i64 12]) ∧ Below w.heap.size w w' := by
  have C := Lib.hid (aFind off i r h0 h hO hc hm hi hn hl)
  have c1 := hO.cell hi 1 (by decide)
  have c2 := hO.cell hi 2 (by decide)
  have c3 := hO.cell hi 3 (by decide)
  have c4 := hO.cell hi 4 (by decide)
  simp only [al, List.getElem?_cons_zero, List.getElem?_cons_succ] at c1 c2 c3 c4
  have hil : i < L.length := (List.getElem?_eq_some_iff.1 hi).1
  have CW := Lib.hid (fun (w1 : World) (hO1 : OwnA w1 B (.slice (some ⟨g, 0, none⟩) L.length cap) L) => aWith off i (r.put x) r hO1 hc hm hi hl)
  have HO := Lib.hid hO
  have HI := Lib.hid hi
  unfold maxLen at hm
  clear hO hi hn
  obtain ⟨a, s, wr, cl⟩ := r
  obtain ⟨⟨a0, a1⟩, ⟨s0, s1⟩, ⟨r0, r1⟩, ⟨e0, e1⟩⟩ := hr
  simp only at a0 a1 s0 s1 r0 r1 e0 e1 c1 c2 c3 c4 ho
  have CN := Lib.hid (by have := rOnly a s wr cl w; rw [ho] at this; exact this)
  have CT := Lib.hid (fun w => rStore a s wr cl x w a0 a1 r0 r1 e0 e1 x0 x1)
  go_enter Try.func10, Try.ntmps10
  go_wp2_with fail
  refine C.out.mono ?_
  rintro e w' ⟨rfl, rfl⟩
  go_wp2_with fail
  refine CN.out.mono ?_
  rintro e w0 ⟨rfl, hb0⟩
  go_wp2_with fail
  go_ret2
  exact ⟨rfl, hb0⟩
end
end Go.Proofs.Ytfhggmiaablcnaa.B
