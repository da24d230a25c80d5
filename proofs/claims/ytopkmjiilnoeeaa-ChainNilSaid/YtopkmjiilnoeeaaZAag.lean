/- Several texts in one: Layer 17's own chains, keys of type [2]int: First, Next, what is asked; New. Layer 17's own chains: variables of their own; .. -/
import Derived.Test.YtopkmjiilnoeeaaZAae
import Derived.Test.YtopkmjiilnoeeaaZAaf
import Derived.Deep.Cut
import Derived.RangeFuncFrom
import Derived.RangeFuncCalls
import Derived.RangeFuncLeaves
import Derived.TacticsInMore
import Derived.OwnWalkIn
import Derived.Shelf.RegionOpen
import Derived.Shelf.Abstract
namespace Go.Proofs.Ytopkmjiilnoeeaa.B
set_option linter.unusedVariables false
set_option linter.unusedSimpArgs false
set_option maxRecDepth 100000
open Go.ChangeShapes Go.WideShapes Go.RowKit Go.Sort Go.MapKept
def oKeyQ (k : Kp) : Obj := .cells #[.int .i64 k.1, .int .i64 k.2] 27 (0, 0)
section
variable {w w' : World} {p m g n : Nat} {M : List (Kp × Value)} {r : Nat → Lk} {H : Kp → Nat} {S : Nat → Prop} {L : List (Kp × Int)}
theorem jFirstK (B : ChBK w p m g n M r (chAll L) H L.length S) (k : Kp) (hk : okk k) : Calls Try.prog 19 #[.pointer (some ⟨p, 0, none⟩), kv k] w fun e w' => e = .returned (.int .i64 (chFst (chAll L k))) ∧ Below w.heap.size w w' := by
 have HB := Lib.hid (trA (tr0 w) (oKeyQ k))
 have HV := Lib.hid (B.below HB.out)
 clear B
 by_cases h0 : chAll L k = []
 · have HLK := Lib.hid (HV.out.looks k)
   rw [if_pos h0] at HLK
   rw [h0]
   clear h0
   show Calls Try.prog _ #[_, .agg #[.int .i64 k.1, .int .i64 k.2]] w _
   go_enter Try.func19, Try.ntmps19
   go_wp2_with fail
   refine (jFindK HV.out.P HV.out.map k hk _ HLK.out).mono ?_
   rintro e w1 ⟨rfl, hb1⟩
   go_wp2_with fail
   go_ret
   exact ⟨rfl, tr HB.out hb1⟩
 · have HLK := Lib.hid (HV.out.looks k)
   rw [if_neg h0] at HLK
   have HJ := Lib.hid (HV.out.J h0)
   generalize H k = b at *
   clear h0
   show Calls Try.prog _ #[_, .agg #[.int .i64 k.1, .int .i64 k.2]] w _
   go_enter Try.func19, Try.ntmps19
   go_wp2_with fail
   refine (jFindK HV.out.P HV.out.map k hk _ HLK.out).mono ?_
   rintro e w1 ⟨rfl, hb1⟩
   have HB1 := Lib.hid (tr HB.out hb1)
   have HJ1 := Lib.hid (HJ.out.below hb1)
   clear hb1
   have hb := HJ1.out.B.lt
   have c1 := HJ1.out.B.c1
   go_wp2_with fail
   go_ret
   exact ⟨rfl, HB1.out⟩
theorem jLenK (B : ChBK w p m g n M r (chAll L) H L.length S) (k : Kp) (hk : okk k) : Calls Try.prog 22 #[.pointer (some ⟨p, 0, none⟩), kv k] w fun e w' => e = .returned (.int .i64 ((chAll L k).length : Int)) ∧ Below w.heap.size w w' := by
 have HB := Lib.hid (trA (tr0 w) (oKeyQ k))
 have HV := Lib.hid (B.below HB.out)
 clear B
 by_cases h0 : chAll L k = []
 · have HLK := Lib.hid (HV.out.looks k)
   rw [if_pos h0] at HLK
   rw [h0]
   clear h0
   show Calls Try.prog _ #[_, .agg #[.int .i64 k.1, .int .i64 k.2]] w _
   go_enter Try.func22, Try.ntmps22
   go_wp2_with fail
   refine (jFindK HV.out.P HV.out.map k hk _ HLK.out).mono ?_
   rintro e w1 ⟨rfl, hb1⟩
   go_wp2_with fail
   go_ret
   exact ⟨rfl, tr HB.out hb1⟩
 · have HLK := Lib.hid (HV.out.looks k)
   rw [if_neg h0] at HLK
   have HJ := Lib.hid (HV.out.J h0)
   generalize H k = b at *
   clear h0
   show Calls Try.prog _ #[_, .agg #[.int .i64 k.1, .int .i64 k.2]] w _
   go_enter Try.func22, Try.ntmps22
   go_wp2_with fail
   refine (jFindK HV.out.P HV.out.map k hk _ HLK.out).mono ?_
   rintro e w1 ⟨rfl, hb1⟩
   have HB1 := Lib.hid (tr HB.out hb1)
   have HJ1 := Lib.hid (HJ.out.below hb1)
   clear hb1
   have hb := HJ1.out.B.lt
   have c3 := HJ1.out.B.c3
   go_wp2_with fail
   go_ret
   exact ⟨rfl, HB1.out⟩
theorem jTotalK (B : ChBK w p m g n M r (chAll L) H L.length S) : Calls Try.prog 23 #[.pointer (some ⟨p, 0, none⟩)] w fun e w' => e = .returned (.int .i64 (L.length : Int)) ∧ Below w.heap.size w w' := by
 have hp := B.P.lt
 have c2 := B.P.c2
 clear B
 go_enter Try.func23, Try.ntmps23
 go_wp2_with fail
 go_ret
 exact ⟨rfl, tr0 _⟩
theorem ChBK.place (B : ChBK w p m g n M r (chAll L) H L.length S) (ok : ChOk n L) {i : Nat} (hi : i < n) (hh : chHas L i = true) : ∃ k l1 l2, chAll L k = l1 ++ (i : Int) :: l2 ∧ r i = ⟨some (H k), chLst l1, chFst l2⟩ ∧ chNext L i = chFst l2 ∧ chKey L i = some k := by
 cases hx : (r i).h with
 | none => exact absurd ((chHas_all L i).1 hh) fun ⟨k, h⟩ => B.rep.of_none hx k h
 | some b =>
   obtain ⟨k, l1, l2, e, _, h⟩ := B.rep.of_some hi hx
   refine ⟨k, l1, l2, e, h, ?_, chKey_all ok (by rw [e]; simp)⟩
   rw [chNext_step ok k (j := l1.length) (by rw [e, List.getElem?_append_right (Nat.le_refl _), Nat.sub_self]; rfl), e, show l1 ++ (i : Int) :: l2 = (l1 ++ [(i : Int)]) ++ l2 by simp, List.drop_append_of_le_length (by simp), List.drop_eq_nil_of_le (by simp)]
   rfl
theorem jNextK (B : ChBK w p m g n M r (chAll L) H L.length S) (ok : ChOk n L) (i : Int) : Calls Try.prog 20 #[.pointer (some ⟨p, 0, none⟩), .int .i64 i] w fun e w' => e = .returned (.int .i64 (chNext L i)) ∧ w = w' := by
 have hlk := B.lkd2 ok i
 have HV := Lib.hid B
 cases hh : chHas L i with
 | false =>
   rw [hh] at hlk
   have hno : chNext L i = -1 := chNext_none (chHas_no hh)
   rw [hno]
   clear B ok hh hno
   go_enter Try.func20, Try.ntmps20
   go_wp2_with (go_at_call 42; refine (jLinkedK HV.out.P HV.out.R i).mono ?_; rintro e w2 ⟨rfl, rfl⟩; rw [hlk])
   go_ret
   exact ⟨rfl, rfl⟩
 | true =>
   rw [hh] at hlk
   obtain ⟨h0, h1⟩ := chHas_rg ok hh
   obtain ⟨j, rfl⟩ := Int.eq_ofNat_of_zero_le h0
   have hj : j < n := by omega
   obtain ⟨k, l1, l2, _, hr, hn, _⟩ := B.place ok hj hh
   have hjr : 0 ≤ (j : Int) ∧ (j : Int) < n := ⟨h0, h1⟩
   rw [hn]
   have c1 := B.P.c1
   have hp := B.P.lt
   have hg := B.R.lt
   have q2 : w.cell? ⟨g, j * 3 + 2, none⟩ = some (.int .i64 (chFst l2)) := by have := B.R.c2 hj; rw [hr] at this; exact this
   clear B ok hh hn hr h0 h1
   go_enter Try.func20, Try.ntmps20
   go_wp2_with (go_at_call 42; refine (jLinkedK HV.out.P HV.out.R _).mono ?_; rintro e w2 ⟨rfl, rfl⟩; rw [hlk])
   go_ret
   exact ⟨rfl, rfl⟩
end
def oLksK (n : Nat) : Obj := .cells (madeCells (Value.agg #[.pointer none, .int .i64 0, .int .i64 0]).cells (n * 3)) tLkK (0, 0)
theorem infoLkK : (Try.prog.info? 71).map (fun i => (i.zero, i.size, i.bytes)) = some (some (.agg #[.pointer none, .int .i64 0, .int .i64 0]), 3, 24) := by kernel_rfl
theorem mkLkK (n : Nat) (n1 : n ≤ 4096) (w : World) : (Instr.makeSlice 73 (.int .i64 n) (.int .i64 n)).run Try.prog w = .ok (.slice (some ⟨w.heap.size, 0, none⟩) n n) (w.alloc (oLksK n)) := by
 obtain ⟨i0, hi, hz0, hz1, hz2⟩ := info_parts infoLkK
 have hr := run_make (P := Try.prog) w 73 71 i0 _ Try.underlying73 hi hz0 .i64 .i64 n n (by omega) (Int.le_refl _) (by rw [hz2]; omega) (by omega)
 rw [hz1] at hr
 simpa [oLksK] using hr
theorem madeLkK (n : Nat) (w : World) : LkRow tLkK (w.alloc (oLksK n)) w.heap.size n (fun _ => lk0) := by
 refine ⟨_, blk_new w (oLksK n), by rw [size_madeCells], fun i hi => ?_⟩
 have key : ∀ j, j < 3 → (madeCells (Value.agg #[.pointer none, .int .i64 0, .int .i64 0]).cells (n * 3))[i * 3 + j]? = some ((#[Value.pointer none, .int .i64 0, .int .i64 0])[j]!) := fun j hj => by
  have hlt : i * 3 + j < n * 3 := by omega
  unfold madeCells
  simp only [Array.getElem?_map]
  rw [show (Array.range (n * 3))[i * 3 + j]? = some (i * 3 + j) by simp [hlt]]
  simp only [Option.map_some, Value.cells]
  rw [show (i * 3 + j) % (#[Value.pointer none, .int .i64 0, .int .i64 0]).size = j by show (i * 3 + j) % 3 = j; omega]
 exact ⟨key 0 (by decide), key 1 (by decide), key 2 (by decide)⟩
theorem ChBK.empty {w : World} {p m g n : Nat} (hP : ChCK w p m g n 0) (hm : mapP w kv okk m []) (hR : LkRow tLkK w g n (fun _ => lk0)) : ChBK w p m g n [] (fun _ => lk0) (chAll []) (fun _ => 0) (([] : List (Kp × Int)).length : Int) (fun x => x = p ∨ x = m ∨ x = g) where
 P := hP
 map := hm
 R := hR
 hd := fun k hk => absurd rfl hk
 rep := ⟨(fun k j i h => nomatch h), fun i hi h => rfl⟩
 mp := fun k v => ⟨(fun h => nomatch h), fun h => absurd rfl h.1⟩
 sp := .inl rfl
 sm := .inr (.inl rfl)
 sg := .inr (.inr rfl)
 sh := fun k hk => absurd rfl hk
 lt := fun x hx => by
  rcases hx with rfl | rfl | rfl
  · exact hP.lt
  · exact hm.lt
  · exact hR.lt
theorem jEmptyK (n : Nat) (n1 : n ≤ 4096) (w : World) : Calls Try.prog 35 #[.int .i64 n] w fun e w' => ∃ (p : Nat) (S : Nat → Prop), e = .returned (.pointer (some ⟨p, 0, none⟩)) ∧ chRK.At w' p S n [] ∧ (∀ k, S k → w.heap.size ≤ k) ∧ Below w.heap.size w w' := by
 have mk := mkLkK n n1
 have hmm : ∀ w : World, (Instr.makeMap 72 none).run Try.prog w = .ok (.map (some w.heap.size)) (w.alloc (.map #[] 0)) := fun w => run_makeMap _ w
 have h1 := mapP_made w kv okk
 have b1 := trA (tr0 w) (.map #[] 0)
 generalize hW1 : w.alloc (.map #[] 0) = W1 at *
 have e1 : W1.heap.size = w.heap.size + 1 := by rw [← hW1]; simp
 have h2 := madeLkK n W1
 have b2 := trA (tr0 W1) (oLksK n)
 have h2m := h1.below b2 h1.lt
 generalize hW2 : W1.alloc (oLksK n) = W2 at *
 have e2 : W2.heap.size = w.heap.size + 2 := by rw [← hW2]; simp; omega
 have h3 := blk_new W2 (.cells #[.map (some w.heap.size), .slice (some ⟨W1.heap.size, 0, none⟩) n n, .int .i64 0] tChK (0, 0))
 have b3 := trA (tr0 W2) (.cells #[.map (some w.heap.size), .slice (some ⟨W1.heap.size, 0, none⟩) n n, .int .i64 0] tChK (0, 0))
 have H := Lib.hid (ChBK.empty (p := W2.heap.size) (m := w.heap.size) (g := W1.heap.size) (n := n) h3 (h2m.below b3 h2m.lt) (h2.kept (b3.block _ h2.lt)))
 have HB := Lib.hid (tr (tr b1 b2) b3)
 have HE := Lib.hid (show W1.heap.size = w.heap.size + 1 ∧ W2.heap.size = w.heap.size + 2 from ⟨e1, e2⟩)
 clear h1 b1 h2 b2 h2m h3 b3 e1 e2
 go_enter Try.func35, Try.ntmps35
 go_wp2_with fail
 go_ret
 exact ⟨_, _, rfl, H.out.at rfl, (by
  obtain ⟨e1, e2⟩ := HE.out
  rintro k (rfl | rfl | rfl) <;> omega), HB.out⟩
theorem jNewK (n : Nat) (w : World) (n0 : 1 ≤ n) (n1 : n ≤ 4096) : Calls Try.prog 7 #[.int .i64 n] w fun e w' => ∃ (p : Nat) (S : Nat → Prop), e = .returned (.tuple #[.pointer (some ⟨p, 0, none⟩), .int .i64 0]) ∧ chRK.At w' p S n [] ∧ (∀ k, S k → w.heap.size ≤ k) ∧ Below w.heap.size w w' := by
 have h0 : ¬ (n : Int) < 1 := by omega
 have h1 : ¬ (4096 : Int) < n := by omega
 go_enter Try.func7, Try.ntmps7
 go_wp2_with fail
 refine (jEmptyK n n1 w).mono ?_
 rintro e w' ⟨p, S, rfl, hA, hS, hb⟩
 go_wp2_with fail
 go_ret2
 exact ⟨p, S, rfl, hA, hS, hb⟩
theorem jNewNoK (a : Int) (w : World) (ha : i64r a) (hn : ¬ (1 ≤ a ∧ a ≤ 4096)) : Calls Try.prog 7 #[.int .i64 a] w fun e w' => e = .returned (.tuple #[.pointer none, .int .i64 5]) ∧ Below w.heap.size w w' := by
 by_cases h0 : a < 1
 · go_enter Try.func7, Try.ntmps7
   go_wp2_with fail
   go_ret2
   exact ⟨rfl, tr0 _⟩
 · have h1 : (4096 : Int) < a := by omega
   go_enter Try.func7, Try.ntmps7
   go_wp2_with fail
   go_ret2
   exact ⟨rfl, tr0 _⟩
theorem iKp : (Try.prog.info? 27).map (·.size) = some 2 := by kernel_rfl
theorem jKeyK {w : World} {p m g n : Nat} {M : List (Kp × Value)} {r : Nat → Lk} {H : Kp → Nat} {S : Nat → Prop} {L : List (Kp × Int)} (B : ChBK w p m g n M r (chAll L) H L.length S) (ok : ChOk n L) (i : Int) :
 Calls Try.prog 21 #[.pointer (some ⟨p, 0, none⟩), .int .i64 i] w fun e w' => e = .returned (.tuple #[kv ((chKey L i).getD (0, 0)), .bool (chHas L i)]) ∧ Below w.heap.size w w' := by
 have hlk := B.lkd2 ok i
 cases hh : chHas L i with
 | false =>
   rw [hh] at hlk
   have hno : chKey L i = none := chKey_none (chHas_no hh)
   rw [hno]
   have HV := Lib.hid (B.below (trA (tr0 w) (.cells #[.int .i64 0, .int .i64 0] 27 (0, 0))))
   have HX := Lib.hid (b2_0 w (.cells #[.int .i64 0, .int .i64 0] 27 (0, 0)) (.cells #[.int .i64 0, .int .i64 0] 27 (0, 0)))
   have HB := Lib.hid (trA (trA (tr0 w) (.cells #[.int .i64 0, .int .i64 0] 27 (0, 0))) (.cells #[.int .i64 0, .int .i64 0] 27 (0, 0)))
   clear B ok hh hno
   go_enter Try.func21, Try.ntmps21
   go_wp2_with (go_at_call 42; refine (jLinkedK HV.out.P HV.out.R i).mono ?_; rintro e w2 ⟨rfl, rfl⟩; rw [hlk])
   refine bodyPost_ret (v := .tuple #[.agg #[.int .i64 0, .int .i64 0], .bool false]) ?_ rfl ⟨rfl, HB.out⟩
   exact results_cell_slot rfl _ _ w.heap.size 0 _ [.int .i64 0, .int .i64 0] _ rfl rfl HX.out Try.underlying27 rfl iKp (part_all _)
 | true =>
   rw [hh] at hlk
   obtain ⟨h0, h1⟩ := chHas_rg ok hh
   obtain ⟨j, rfl⟩ := Int.eq_ofNat_of_zero_le h0
   have hj : j < n := by omega
   obtain ⟨k, l1, l2, he, hr, _, hk⟩ := B.place ok hj hh
   have hjr : 0 ≤ (j : Int) ∧ (j : Int) < n := ⟨h0, h1⟩
   rw [hk]
   have HV := Lib.hid (B.below (trA (tr0 w) (.cells #[.int .i64 0, .int .i64 0] 27 (0, 0))))
   have HB := Lib.hid (trA (tr0 w) (.cells #[.int .i64 0, .int .i64 0] 27 (0, 0)))
   have HX := Lib.hid (blk_new w (.cells #[.int .i64 0, .int .i64 0] 27 (0, 0)))
   have hne : chAll L k ≠ [] := by rw [he]; simp
   have hxp : w.heap.size ≠ p := by have := B.P.lt; omega
   clear B ok hh hk he h0 h1
   go_enter Try.func21, Try.ntmps21
   go_wp2_with fail
   generalize w.alloc (.cells #[.int .i64 0, .int .i64 0] 27 (0, 0)) = W at *
   refine (jLinkedK HV.out.P HV.out.R _).mono ?_
   rintro e w2 ⟨rfl, rfl⟩
   rw [hlk]
   have c1 := HV.out.P.c1
   have hp := HV.out.P.lt
   have hg := HV.out.R.lt
   have q0 : W.cell? ⟨g, j * 3, none⟩ = some (.pointer (some ⟨H k, 0, none⟩)) := by have := HV.out.R.c0 hj; rw [hr] at this; exact this
   have HJ := HV.out.J hne
   have k0 := HJ.B.k0
   have k1 := HJ.B.k1
   have hb := HJ.B.lt
   have x0 := blk_cell HX.out 0
   have x1 := blk_cell HX.out 1
   simp only [List.getElem?_toArray, List.getElem?_cons_zero, List.getElem?_cons_succ] at x0 x1
   have f0 := blk_free HX.out 0
   have f1 := blk_free HX.out 1
   have hx := lt_of_block HX.out
   generalize H k = b at *
   clear hr hne HJ HV
   go_wp2_with fail
   have h1 := blk_set (blk_set HX.out 0 (.int .i64 k.1)) 1 (.int .i64 k.2)
   refine bodyPost_ret (v := .tuple #[.agg #[.int .i64 k.1, .int .i64 k.2], .bool true]) ?_ rfl ⟨rfl, (HB.out.setCell (p := ⟨w.heap.size, 0, none⟩) (Nat.le_refl _) _).setCell (p := ⟨w.heap.size, 1, none⟩) (Nat.le_refl _) _⟩
   exact results_cell_slot rfl _ _ w.heap.size 0 _ [.int .i64 k.1, .int .i64 k.2] _ rfl rfl h1 Try.underlying27 rfl iKp (part_all _)
end Go.Proofs.Ytopkmjiilnoeeaa.B
namespace Go.Proofs.Ytopkmjiilnoeeaa.B
set_option linter.unusedVariables false
set_option linter.unusedSimpArgs false
set_option maxRecDepth 100000
open Go.ChangeShapes Go.WideShapes Go.RowKit Go.Sort
theorem calls_marksJ {f : FuncId} {fn : Func} {c : Code} {args : Array Value} {w : World} {R : Ending → World → Prop} (hf : Try.prog.funcs[f]? = some fn) (hb : fn.body = some c)
 (h : c.wp Try.prog (bodyPostM Fence.wide 3 Try.prog fn R) { tmps := args ++ Array.replicate (fn.ntmps - args.size) undef, defers := [] } w) : Calls Try.prog f args w R :=
 (callsIn_wide (n := 3)).1 (callsIn_of_wp_marks hf hb trivial ((wpIn_wide (n := 3)).2 h) rfl)
def OneAt (T : TypeId) (w : World) (b : Nat) (v : Value) : Prop := w.heap[b]? = some (.cells #[v] T (0, 0))
section
variable {T : TypeId} {w w' : World} {b : Nat} {v : Value}
theorem OneAt.lt (h : OneAt T w b v) : b < w.heap.size := lt_of_block h
theorem OneAt.below (h : OneAt T w b v) (hb : Below w.heap.size w w') : OneAt T w' b v := blk_below hb h (lt_of_block h)
theorem OneAt.off {S : Nat → Prop} (h : OneAt T w b v) (ho : Off S w w') (hs : ¬ S b) : OneAt T w' b v := ho.at h hs
theorem OneAt.c (h : OneAt T w b v) : w.cell? ⟨b, 0, none⟩ = some v := by rw [blk_cell h]; rfl
theorem OneAt.free (h : OneAt T w b v) : w.frozen? ⟨b, 0, none⟩ = false := blk_free h 0
theorem OneAt.set (h : OneAt T w b v) (u : Value) : OneAt T (w.setCell ⟨b, 0, none⟩ u) b u := by
 unfold OneAt
 rw [blk_set h]
 rfl
end
theorem joff_put {S : Nat → Prop} (w : World) (r : Nat) (o : Obj) (h : S r) : Off S w (w.putObj r o) := ⟨rfl, rfl, rfl, by simp, fun k _ hk => World.putObj_heap_other (fun e => hk (by rw [e]; exact h))⟩
def four (i c B r : Nat) : Prop := r = i ∨ r = c ∨ r = B ∨ r = B + 1
def Keep4 (i c B : Nat) (A A' : World) : Prop := A.heap.size ≤ A'.heap.size ∧ ∀ r, four i c B r → A'.heap[r]? = A.heap[r]?
def Keep2 (i c : Nat) (A A' : World) : Prop := A.heap.size ≤ A'.heap.size ∧ A'.heap[i]? = A.heap[i]? ∧ A'.heap[c]? = A.heap[c]?
def post4 (i c B : Nat) (I : List Int → World → Prop) (xs : List Int) (W : World) : Exit → Act → World → Prop
 | .normal, _, W' => Keep4 i c B W W' ∧ I xs W'
 | _, _, _ => False
def leftI (l : List Int) (v : Option Value) : Nat := match v with
 | some (.int _ x) => l.length - l.idxOf x
 | _ => 0
theorem leftI_at {l : List Int} (nd : l.Nodup) {j : Nat} (hj : j < l.length) (q : IntKind) : leftI l (some (.int q (chFst (l.drop j)))) = l.length - j := by
 have h1 : chFst (l.drop j) = l[j] := by rw [List.drop_eq_getElem_cons hj]; rfl
 show l.length - l.idxOf _ = _
 rw [h1, List.Nodup.idxOf_getElem nd j hj]
theorem leftI_end {l : List Int} (h0 : ∀ x ∈ l, 0 ≤ x) (q : IntKind) : leftI l (some (.int q (-1))) = 0 := by
 show l.length - l.idxOf _ = _
 rw [List.idxOf_eq_length (fun h => by have := h0 _ h; omega)]
 omega
theorem leftI_step {l : List Int} (nd : l.Nodup) (h0 : ∀ x ∈ l, 0 ≤ x) {j : Nat} (hj : j < l.length) (q : IntKind) : leftI l (some (.int q (chFst (l.drop (j + 1))))) < leftI l (some (.int q (chFst (l.drop j)))) := by
 rw [leftI_at nd hj]
 by_cases h : j + 1 < l.length
 · rw [leftI_at nd h]; omega
 · rw [List.drop_eq_nil_of_le (by omega)]
   have : leftI l (some (.int q (chFst []))) = 0 := leftI_end h0 q
   omega
section
variable {F : Fence} {n : Nat} {ops : Array Oper} {rest : List Oper} {o : Oper} {a : Act} {w : World} {Q : Exit → Act → World → Prop}
theorem jIn_run (hgd : o.guard = none) (hc : ∀ c, o.op ≠ .call c) (hd : ∀ c, o.op ≠ .defer c) {v : Value} {w' : World} (hr : (execOp a.eval o).run Try.prog w = .ok (.value v) w')
 (h : wpListIn F n Try.prog ops Q rest (a.put o.dst v) w') : wpListIn F n Try.prog ops Q (o :: rest) a w :=
 wpListIn_plain hgd fun _ hK => by
  unfold Oper.wpIn
  refine ⟨?_, ?_⟩
  · intro f hf
    unfold Oper.about at hf
    cases ho : o.op <;> simp [ho] at hf
    exact absurd ho (hc _)
  · rw [Oper.semAt_plain F _ _ hd, hr]
    exact hK _ _ h
theorem buildIIn (hgd : o.guard = none) (x : Operand) (ho : o.op = .buildSlice 38 1 #[(0, x)]) {i : Int} (hx : a.eval x = .int .i64 i)
 (h : wpListIn F n Try.prog ops Q rest (a.put o.dst (.slice (some ⟨w.heap.size, 0, none⟩) 1 1)) (w.alloc (oI i))) : wpListIn F n Try.prog ops Q (o :: rest) a w := by
 obtain ⟨i0, hi, hz0, hz1, hz2⟩ := info_parts infoI
 refine jIn_run hgd (by rw [ho]; intro c hc; cases hc) (by rw [ho]; intro c hc; cases hc) ?_ h
 unfold execOp
 simp only [ho, Sem.run_bind]
 rw [run_buildSlice w _ 3 1 _ #[.int .i64 i] i0 _ Try.underlying38 hi hz0 (by rw [hz1]; decide) (by rw [hz1]; decide)]
 · rfl
 · rw [hz1]
   simp only [List.map_toArray, List.map_cons, List.map_nil, hx]
   rw [show Array.range (1 * 1) = #[0] by decide]
   simp [Instr.fill, Value.cells]
theorem appendIIn (hgd : o.guard = none) (s x : Operand) (ho : o.op = .call { callee := .builtin .append, args := #[s, x], argTypes := #[38, 38] })
 {B g : Nat} {v : Value} {L : List Int} {i : Int} (hs : a.eval s = v) (hO : IsAt w B v L) (hx : a.eval x = .slice (some ⟨g, 0, none⟩) 1 1) (hy : w.heap[g]? = some (oI i)) (hk : L.length < 5000) (hB : B ≤ w.heap.size)
 (h : ∀ v' w', IsAt w' B v' (L ++ [i]) → Off (fun b => v.ownBlock = some b) w w' → wpListIn F n Try.prog ops Q rest (a.put o.dst v') w') : wpListIn F n Try.prog ops Q (o :: rest) a w := by
 obtain ⟨i0, hi, hz0, hz1, hz2⟩ := info_parts infoI
 refine wpListIn_append_own w hgd s x _ ho B 3 i0 _ 1 8 Try.underlying38 hi hz0 hz1 hz2 rfl (by decide) v L.length (ivs L) hs hO ⟨g, 0, none⟩ 1 1 [.int .i64 i] hx rfl (fun j u hu => ?_) (fun u hu => ?_) (by unfold maxLen; omega) (by omega) hB fun v' w' h3 h4 _ => ?_
 · rw [Addr.add_lit, Nat.zero_add, blk_cell hy, List.getElem?_toArray]
   exact hu
 · simp only [List.mem_cons, List.not_mem_nil, or_false] at hu
   rw [hu]
   rfl
 · refine h v' w' ?_ (Off.ofGrown h4 fun k e => e)
   unfold IsAt ivs
   rw [List.map_append, List.length_append]
   exact h3
end
structure AlAt (w0 w : World) (lb B : Nat) (v : Value) (l : List Int) : Prop where
 S : OneAt 38 w lb v
 R : IsAt w (B + 2) v l
 lo : Below w0.heap.size w0 w
theorem AlAt.off {w0 w w' : World} {lb bi B : Nat} {v : Value} {l : List Int} (h : AlAt w0 w lb B v l) (h0 : w0.heap.size ≤ lb) (h1 : lb < bi) (h2 : bi < B) (ho : Off (fun r => r = bi ∨ r = B ∨ r = B + 1) w w') : AlAt w0 w' lb B v l :=
 ⟨h.S.off ho (by omega), h.R.off ho fun b hb e => by have := (h.R.block hb).1; omega, Off.toBelow h.lo ho (fun j hj e => by omega) (Nat.le_refl _)⟩
theorem AlAt.put {w0 w w2 : World} {lb bi bc B : Nat} {v v' : Value} {l : List Int} {i : Int} (h : AlAt w0 w lb B v l) (h0 : w0.heap.size ≤ lb) (h1 : lb < bc) (h2 : bc < bi) (h3 : bi < B) (hs : B + 2 ≤ w.heap.size) (hR : IsAt w2 (B + 2) v' (l ++ [i])) (ho : Off (fun b => v.ownBlock = some b) (w.alloc (oI i)) w2) :
 AlAt w0 (w2.setCell ⟨lb, 0, none⟩ v') lb B v' (l ++ [i]) ∧ Keep4 bi bc B w (w2.setCell ⟨lb, 0, none⟩ v') := by
 have hb := trA (tr0 w) (oI i)
 have how : ∀ b, v.ownBlock = some b → B + 2 ≤ b := fun b e => ((h.R.below hb).block e).1
 have hS : OneAt 38 w2 lb v := (h.S.below hb).off ho fun e => by have := how _ e; omega
 refine ⟨⟨hS.set v', hR.off (off_set w2 lb 0 v') (fun b e1 e2 => by have := (hR.block e1).1; omega), ?_⟩, ?_, ?_⟩
 · exact (Off.toBelow (tr h.lo hb) ho (fun j hj e => by have := how _ e; have := h.S.lt; omega) (Nat.le_refl _)).setCell (p := ⟨lb, 0, none⟩) h0 _
 · exact Nat.le_trans hb.size (Nat.le_trans ho.size (off_set w2 lb 0 v').size)
 · intro r hr
   have hr2 : r < w.heap.size ∧ r < B + 2 ∧ r ≠ lb := by unfold four at hr; omega
   rw [(off_set w2 lb 0 v').block r (by have := hb.size; have := ho.size; omega) hr2.2.2, ho.block r (Nat.lt_of_lt_of_le hr2.1 hb.size) fun e => by have := how _ e; omega]
   exact hb.block r hr2.1
end Go.Proofs.Ytopkmjiilnoeeaa.B
namespace Go.Proofs.Ytopkmjiilnoeeaa.B
set_option linter.unusedVariables false
set_option linter.unusedSimpArgs false
set_option maxRecDepth 100000
open Go.ChangeShapes Go.WideShapes Go.RowKit Go.Sort Go.MapKept
attribute [local go_sem] Oper.semAt_some
abbrev tPcK : TypeId := 23
theorem jFromK (p : Nat) (i : Int) (w : World) : Calls Try.prog 45 #[.pointer (some ⟨p, 0, none⟩), .int .i64 i] w
 fun e w' => ∃ bi bc, e = .returned (.func (.func 64) #[] #[.pointer (some ⟨bi, 0, none⟩), .pointer (some ⟨bc, 0, none⟩)]) ∧ w.heap.size ≤ bc ∧ bc < bi ∧ OneAt 3 w' bi (.int .i64 i) ∧ OneAt tPcK w' bc (.pointer (some ⟨p, 0, none⟩)) ∧ Below w.heap.size w w' := by
 have hmf : ∀ (fn : Fn) (first cap : Array Value) (w : World), (Instr.makeFunc fn first cap).run Try.prog w = .ok (.func fn first cap) w := fun _ _ _ _ => rfl
 have H0 := Lib.hid (b2_0 w (.cells #[.pointer (some ⟨p, 0, none⟩)] tPcK (0, 0)) (.cells #[.int .i64 i] 3 (0, 0)))
 have H1 := Lib.hid (b2_1 w (.cells #[.pointer (some ⟨p, 0, none⟩)] tPcK (0, 0)) (.cells #[.int .i64 i] 3 (0, 0)))
 have HB := Lib.hid (trA (trA (tr0 w) (.cells #[.pointer (some ⟨p, 0, none⟩)] tPcK (0, 0))) (.cells #[.int .i64 i] 3 (0, 0)))
 go_enter Try.func45, Try.ntmps45
 go_wp2_with fail
 go_ret
 exact ⟨_, _, rfl, Nat.le_refl _, Nat.lt_succ_self _, H1.out, H0.out, HB.out⟩
structure FrAtK (w : World) (bi bc p : Nat) (l : List Int) (J : List Int → World → Prop) (j : Nat) : Prop where
 i : OneAt 3 w bi (.int .i64 (chFst (l.drop j)))
 c : OneAt tPcK w bc (.pointer (some ⟨p, 0, none⟩))
 j : J (l.take j) w
set_option maxHeartbeats 3200000 in
theorem jFrom1K {n p bi bc l : Nat} {L : List (Kp × Int)} (ok : ChOk n L) (k : Kp) (J : List Int → World → Prop) (w : World) (hJ : ∀ s A A', J s A → Off (· = bi) A A' → J s A')
 (hC : ∀ s A, J s A → ∃ m g M r H S, ChBK A p m g n M r (chAll L) H L.length S)
 (hY : ∀ pre i W1, J pre W1 → bi < W1.heap.size → bc < W1.heap.size → pre ++ [i] <+: chAll L k → YieldAt Fence.wide 1 Try.prog l #[.int .i64 i] W1 fun e W' => e = .returned (.bool true) ∧ J (pre ++ [i]) W' ∧ Keep2 bi bc W1 W')
 (hi : OneAt 3 w bi (.int .i64 (chFst (chAll L k)))) (hc : OneAt tPcK w bc (.pointer (some ⟨p, 0, none⟩))) (hne : bi ≠ bc) (h0 : J [] w) :
 Calls Try.prog 64 #[.func (.yield l) #[] #[], .pointer (some ⟨bi, 0, none⟩), .pointer (some ⟨bc, 0, none⟩)] w fun e w' => (∃ v, e = .returned v) ∧ J (chAll L k) w' := by
 have HJ := Lib.hid hJ
 have HC := Lib.hid hC
 have HY := Lib.hid hY
 have HOK := Lib.hid ok
 have HND := Lib.hid (chAll_nd ok k)
 have HPO := Lib.hid (show ∀ x ∈ chAll L k, 0 ≤ x from fun x hx => (ok.A.rg k x hx).1)
 have HF := Lib.hid (show FrAtK w bi bc p (chAll L k) J 0 from ⟨hi, hc, h0⟩)
 clear hJ hC hY hi hc h0 ok
 go_enter Try.func64, Try.ntmps64
 go_wp2_with fail
 go_loopw [] (fun wr => ∃ j, j ≤ (chAll L k).length ∧ Hid (FrAtK wr bi bc p (chAll L k) J j)) (fun wr => leftI (chAll L k) (wr.cell? ⟨bi, 0, none⟩))
 case atStart => exact ⟨0, Nat.zero_le _, HF⟩
 case round =>
  clear HF
  obtain ⟨j, hj, HF⟩ := hrel
  have ci := HF.out.i.c
  have li := HF.out.i.lt
  by_cases hjl : j < (chAll L k).length
  · obtain ⟨x, hx⟩ : ∃ x, (chAll L k)[j]? = some x := ⟨_, List.getElem?_eq_getElem hjl⟩
    have hd : chFst ((chAll L k).drop j) = x := by
     have := List.getElem?_eq_some_iff.1 hx
     rw [List.drop_eq_getElem_cons hjl, this.2]
     rfl
    have hx0 : 0 ≤ x := HPO.out x (List.mem_of_getElem? hx)
    have ht : (chAll L k).take j ++ [x] = (chAll L k).take (j + 1) := by rw [List.take_add_one, hx]; rfl
    have hpre : (chAll L k).take j ++ [x] <+: chAll L k := by rw [ht]; exact List.take_prefix _ _
    obtain ⟨fn, tmps, asg, body, hy, hR⟩ := HY.out _ x _ HF.out.j HF.out.i.lt HF.out.c.lt hpre
    have hM := leftI_step HND.out HPO.out hjl .i64
    have HM := Lib.hid (show leftI (chAll L k) (some (.int .i64 (chFst ((chAll L k).drop (j + 1))))) < leftI (chAll L k) (wr.cell? ⟨bi, 0, none⟩) by rw [ci]; exact hM)
    have HT := Lib.hid ht
    have HN := Lib.hid (chNext_step HOK.out k hx)
    rw [hd] at ci
    have hb : (x != -1) = true := by simp; omega
    clear hd hx hpre ht hM
    go_upto_region 2 with (fail)
    refine (wpIn_wide (n := 2)).1 ?_
    gi_wp2
    refine hR.mono ?_
    rintro e W3 ⟨rfl, hJ3, hk3⟩
    have HI3 := Lib.hid (show OneAt 3 W3 bi (.int .i64 x) from by
     have h := HF.out.i
     have h2 : chFst ((chAll L k).drop j) = x := by
      have := HF.out.i.c.symm.trans ci
      simpa using this
     rw [h2] at h
     exact hk3.2.1.trans h)
    have HC3 := Lib.hid (show OneAt tPcK W3 bc (.pointer (some ⟨p, 0, none⟩)) from hk3.2.2.trans HF.out.c)
    have HJ3 := Lib.hid hJ3
    obtain ⟨m, g, M, r, H, S, hB⟩ := HC.out _ _ hJ3
    have HB := Lib.hid hB
    clear hJ3 hk3 hB hy hR ci li hb HF
    have ci := HI3.out.c
    have li := HI3.out.lt
    have fi := HI3.out.free
    have cc := HC3.out.c
    have lc := HC3.out.lt
    gi_wp2
    go_wp2_with (go_at_call 20; refine (jNextK HB.out HOK.out x).mono ?_; rintro e w5 ⟨rfl, rfl⟩; rw [HN.out])
    go_roundw
    case rel =>
     refine ⟨j + 1, hjl, Lib.hid ⟨HI3.out.set _, HC3.out.off (off_set _ _ _ _) (fun e => hne e.symm), ?_⟩⟩
     rw [← HT.out]
     exact HJ.out _ _ _ HJ3.out (off_set _ _ _ _)
    case measure =>
     have h := HM.out
     rw [(HI3.out.set (.int .i64 (chFst ((chAll L k).drop (j + 1))))).c]
     exact h
  · have hje : j = (chAll L k).length := by omega
    have hd : chFst ((chAll L k).drop j) = -1 := by rw [List.drop_eq_nil_of_le (by omega)]; rfl
    have HD := Lib.hid (show J (chAll L k) wr by have h := HF.out.j; rw [List.take_of_length_le (by omega)] at h; exact h)
    rw [hd] at ci
    clear hd hje hjl hj HF
    go_wp2_with fail
    go_end0
    exact ⟨⟨_, rfl⟩, HD.out⟩
end Go.Proofs.Ytopkmjiilnoeeaa.B
