/- Several texts in one: Layer 17's own chains, keys of type string: their blocks; find, open. Layer 17's own chains, keys of type string: has, .. -/
import Derived.Test.YtopkmjiilnoeeaaZAae
import Derived.Defers
import Derived.Recover
import Derived.Deep.Cut
import Derived.StillTail
namespace Go.Proofs.Ytopkmjiilnoeeaa.B
set_option linter.unusedVariables false
set_option linter.unusedSimpArgs false
set_option maxRecDepth 100000
open Go.ChangeShapes Go.WideShapes Go.RowKit Go.Sort Go.MapKept
abbrev tHdS : TypeId := 109
abbrev tLkS : TypeId := 102
abbrev tChS : TypeId := 106
def hdcS (k : ByteArray) (f l c : Int) : List Value := [.string k, .int .i64 f, .int .i64 l, .int .i64 c]
def HdAtS (w : World) (b : Nat) (k : ByteArray) (f l c : Int) : Prop := w.heap[b]? = some (.cells (hdcS k f l c).toArray tHdS (0, 0))
def ChCS (w : World) (p m g n : Nat) (t : Int) : Prop := w.heap[p]? = some (.cells #[.map (some m), .slice (some ⟨g, 0, none⟩) n n, .int .i64 t] tChS (0, 0))
section
variable {w w' : World} {b : Nat} {k : ByteArray} {f l c : Int}
theorem HdAtS.lt (h : HdAtS w b k f l c) : b < w.heap.size := lt_of_block h
theorem HdAtS.below (h : HdAtS w b k f l c) (hb : Below w.heap.size w w') : HdAtS w' b k f l c := blk_below hb h (lt_of_block h)
theorem HdAtS.off {S : Nat → Prop} (h : HdAtS w b k f l c) (ho : Off S w w') (hs : ¬ S b) : HdAtS w' b k f l c := ho.at h hs
theorem HdAtS.free (h : HdAtS w b k f l c) (j : Nat) : w.frozen? ⟨b, j, none⟩ = false := blk_free h j
theorem HdAtS.c1 (h : HdAtS w b k f l c) : w.cell? ⟨b, 1, none⟩ = some (.int .i64 f) := by rw [blk_cell h]; rfl
theorem HdAtS.c2 (h : HdAtS w b k f l c) : w.cell? ⟨b, 2, none⟩ = some (.int .i64 l) := by rw [blk_cell h]; rfl
theorem HdAtS.c3 (h : HdAtS w b k f l c) : w.cell? ⟨b, 3, none⟩ = some (.int .i64 c) := by rw [blk_cell h]; rfl
theorem HdAtS.k0 (h : HdAtS w b k f l c) : w.cell? ⟨b, 0, none⟩ = some (.string k) := by rw [blk_cell h]; rfl
theorem HdAtS.setF (h : HdAtS w b k f l c) (v : Int) : HdAtS (w.setCell ⟨b, 1, none⟩ (.int .i64 v)) b k v l c := by unfold HdAtS; rw [blk_set h]; rfl
theorem HdAtS.setL (h : HdAtS w b k f l c) (v : Int) : HdAtS (w.setCell ⟨b, 2, none⟩ (.int .i64 v)) b k f v c := by unfold HdAtS; rw [blk_set h]; rfl
theorem HdAtS.setC (h : HdAtS w b k f l c) (v : Int) : HdAtS (w.setCell ⟨b, 3, none⟩ (.int .i64 v)) b k f l v := by unfold HdAtS; rw [blk_set h]; rfl
theorem HdAtS.inj {k2 : ByteArray} {f2 l2 c2 : Int} (h : HdAtS w b k f l c) (h2 : HdAtS w b k2 f2 l2 c2) : k = k2 := by
 have := h.symm.trans h2
 simp [hdcS] at this
 exact this.1
variable {p m g n : Nat} {t : Int}
theorem ChCS.lt (h : ChCS w p m g n t) : p < w.heap.size := lt_of_block h
theorem ChCS.below (h : ChCS w p m g n t) (hb : Below w.heap.size w w') : ChCS w' p m g n t := blk_below hb h (lt_of_block h)
theorem ChCS.off {S : Nat → Prop} (h : ChCS w p m g n t) (ho : Off S w w') (hs : ¬ S p) : ChCS w' p m g n t := ho.at h hs
theorem ChCS.free (h : ChCS w p m g n t) (j : Nat) : w.frozen? ⟨p, j, none⟩ = false := blk_free h j
theorem ChCS.c0 (h : ChCS w p m g n t) : w.cell? ⟨p, 0, none⟩ = some (.map (some m)) := by rw [blk_cell h]; rfl
theorem ChCS.c1 (h : ChCS w p m g n t) : w.cell? ⟨p, 1, none⟩ = some (.slice (some ⟨g, 0, none⟩) n n) := by rw [blk_cell h]; rfl
theorem ChCS.c2 (h : ChCS w p m g n t) : w.cell? ⟨p, 2, none⟩ = some (.int .i64 t) := by rw [blk_cell h]; rfl
theorem ChCS.setT (h : ChCS w p m g n t) (v : Int) : ChCS (w.setCell ⟨p, 2, none⟩ (.int .i64 v)) p m g n v := by unfold ChCS; rw [blk_set h]; rfl
end
theorem jDefS (p1 p2 : Addr) (w : World) : CallsD Try.prog 68 #[.pointer (some p1), .pointer (some p2)] .returning w fun e u' w' => e = .returned (.tuple #[]) ∧ u' = .returning ∧ w' = w := by
 refine callsD_of_wpS Try.func68 rfl fun c₀ cs hu => ?_
 apply wpS_seq
 apply wpS_region
 simp [wpOpsS, go_sem, recoverD, hu, Try.ntmps68, Exit.thenS]
 refine wpS_cond (t := false) (by simp [Act.eval, Array.replicate]) ?_
 simp only [Bool.false_eq_true, if_false]
 refine wpS_of_wp (wp_skip ?_)
 cases c₀
 simp_all [bodyPostS, results, Try.results68]
theorem zHpS (w : World) : (zeroValue 97).run Try.prog w = .ok (.pointer none) w := by kernel_rfl
theorem find_retS {Y : World} {tmps : Array Value} {v : Value} {x y : Nat} (h4 : tmps[4]? = some (.pointer (some ⟨x, 0, none⟩))) (h5 : tmps[5]? = some (.pointer (some ⟨y, 0, none⟩)))
 (hx : Y.heap[x]? = some (.cells #[v] 97 (0, 0))) (hy : Y.heap[y]? = some (.cells #[.bool true] 4 (0, 0))) {Q : World → Prop} (hQ : Q Y) :
 bodyPostD Try.prog Try.f55 (fun e' w' => e' = .returned (.tuple #[v, .bool true]) ∧ Q w') Exit.ret { tmps := tmps, defers := [{ target := Target.fn (Fn.func 68) #[.pointer (some ⟨x, 0, none⟩), .pointer (some ⟨y, 0, none⟩)], args := #[] }] } Y := by
 have hy1 := blk_cell hx 0
 have hy2 := blk_cell hy 0
 simp at hy1 hy2
 refine leaves_cons (f := 68) (args := #[.pointer (some ⟨x, 0, none⟩), .pointer (some ⟨y, 0, none⟩)]) (by simp) (by simp [go_sem]) ?_
 refine (jDefS ⟨x, 0, none⟩ ⟨y, 0, none⟩ _).mono ?_
 rintro e u' w'' ⟨rfl, rfl, rfl⟩
 simp [Leaves, settle, results, Try.results55, go_sem, h4, h5, hy1, hy2]
 exact hQ
theorem jFindS {w : World} {p m g n : Nat} {t : Int} {M : List (ByteArray × Value)} (hC : ChCS w p m g n t) (hM : mapP w svS okS m M) (k : ByteArray) (hk : okS k) (v : Option Addr) (hv : looks M k (.pointer none) (.pointer v)) :
 Calls Try.prog 55 #[.pointer (some ⟨p, 0, none⟩), svS k] w fun e w' => e = .returned (.tuple #[.pointer v, .bool true]) ∧ Below w.heap.size w w' := by
 have hmf : ∀ (fn : Fn) (first cap : Array Value) (w : World), (Instr.makeFunc fn first cap).run Try.prog w = .ok (.func fn first cap) w := fun _ _ _ _ => rfl
 have HX := Lib.hid (b2_0 w (.cells #[.pointer none] 97 (0, 0)) (.cells #[.bool false] 4 (0, 0)))
 have HY := Lib.hid (b2_1 w (.cells #[.pointer none] 97 (0, 0)) (.cells #[.bool false] 4 (0, 0)))
 have HB := Lib.hid (trA (trA (tr0 w) (.cells #[.pointer none] 97 (0, 0))) (.cells #[.bool false] 4 (0, 0)))
 have HC := Lib.hid (hC.below HB.out)
 have HM := Lib.hid (hM.below HB.out hM.lt)
 have HV := Lib.hid hv
 have HO := Lib.hid hk
 clear hC hM hv hk
 show Calls Try.prog _ #[_, .string k] w _
 go_enter_defers Try.func55, Try.ntmps55
 go_upto_region 4 with (fail)
 generalize ((w.alloc (.cells #[.pointer none] 97 (0, 0))).alloc (.cells #[.bool false] 4 (0, 0))) = W at *
 have hp := HC.out.lt
 have c0 := HC.out.c0
 have hX := HX.out
 have hY := HY.out
 have HB3 := HB
 have f1 := blk_free hX 0
 have f2 := blk_free hY 0
 have g1 := blk_cell hX 0
 have g2 := blk_cell hY 0
 simp only [List.getElem?_toArray, List.getElem?_cons_zero, List.getElem?_cons_succ] at g1 g2
 have l1 := lt_of_block hX
 have l2 := lt_of_block hY
 have HX3 := Lib.hid hX
 have HY3 := Lib.hid hY
 clear hX hY
 go_wp2_with (at_lookup; refine wpList_look keyS rfl _ _ _ rfl Try.underlying103 rfl HM.out k (.pointer none) (.pointer v) rfl HV.out HO.out (zHpS _) ?_)
 refine find_retS (by rfl) (by rfl) ?_ ?_ ?_
 · exact blk_else (blk_set HX3.out 0 _) _ _ _ (by omega)
 · exact blk_set (blk_else HY3.out _ _ _ (by omega)) 0 _
 · exact (HB3.out.setCell (p := ⟨w.heap.size, 0, none⟩) (Nat.le_refl _) _).setCell (p := ⟨w.heap.size + 1, 0, none⟩) (Nat.le_add_right _ _) _
theorem jHasS {w : World} {p m g n : Nat} {t : Int} (hC : ChCS w p m g n t) (i : Int) : Calls Try.prog 56 #[.pointer (some ⟨p, 0, none⟩), .int .i64 i] w fun e w' => e = .returned (.bool (decide (0 ≤ i ∧ i < n))) ∧ w = w' := by
 have c1 := hC.c1
 have hp := hC.lt
 clear hC
 by_cases h0 : 0 ≤ i
 · by_cases h1 : i < (n : Int)
   · rw [decide_eq_true (⟨h0, h1⟩ : 0 ≤ i ∧ i < n)]
     go_enter Try.func56, Try.ntmps56
     go_wp2_with fail
     go_ret
     exact ⟨rfl, rfl⟩
   · rw [decide_eq_false (fun h => h1 h.2 : ¬ (0 ≤ i ∧ i < n))]
     go_enter Try.func56, Try.ntmps56
     go_wp2_with fail
     go_ret
     exact ⟨rfl, rfl⟩
 · rw [decide_eq_false (fun h => h0 h.1 : ¬ (0 ≤ i ∧ i < n))]
   go_enter Try.func56, Try.ntmps56
   go_wp2_with fail
   go_ret
   exact ⟨rfl, rfl⟩
theorem jLinkedS {w : World} {p m g n : Nat} {t : Int} {r : Nat → Lk} (hC : ChCS w p m g n t) (hR : LkRow tLkS w g n r) (i : Int) : Calls Try.prog 57 #[.pointer (some ⟨p, 0, none⟩), .int .i64 i] w fun e w' => e = .returned (.bool (lkd n r i)) ∧ w = w' := by
 have HH := Lib.hid (jHasS hC i)
 have c1 := hC.c1
 have hp := hC.lt
 have hg := hR.lt
 by_cases h : 0 ≤ i ∧ i < n
 · rw [decide_eq_true h] at HH
   obtain ⟨h0, h1⟩ := h
   obtain ⟨j, rfl⟩ := Int.eq_ofNat_of_zero_le h0
   have hj : j < n := by omega
   have c0 := hR.c0 hj
   have hl : lkd n r (j : Int) = (r j).h.isSome := by unfold lkd; rw [decide_eq_true ⟨h0, h1⟩]; rfl
   rw [hl]
   clear hC hR hl
   cases hh : (r j).h with
   | none =>
     rw [hh] at c0
     have c : w.cell? ⟨g, j * 3, none⟩ = some (.pointer none) := c0
     clear c0 hh
     go_enter Try.func57, Try.ntmps57
     go_wp2_with (go_at_call 56; refine HH.out.mono ?_; rintro e w1 ⟨rfl, rfl⟩)
     go_ret
     exact ⟨rfl, rfl⟩
   | some b =>
     rw [hh] at c0
     have c : w.cell? ⟨g, j * 3, none⟩ = some (.pointer (some ⟨b, 0, none⟩)) := c0
     clear c0 hh
     go_enter Try.func57, Try.ntmps57
     go_wp2_with (go_at_call 56; refine HH.out.mono ?_; rintro e w1 ⟨rfl, rfl⟩)
     go_ret
     exact ⟨rfl, rfl⟩
 · have hl : lkd n r i = false := by unfold lkd; rw [decide_eq_false h]; rfl
   rw [hl]
   rw [decide_eq_false h] at HH
   clear hC hR hl h
   go_enter Try.func57, Try.ntmps57
   go_wp2_with (go_at_call 56; refine HH.out.mono ?_; rintro e w1 ⟨rfl, rfl⟩)
   go_ret
   exact ⟨rfl, rfl⟩
structure JAtS (w : World) (p m g n : Nat) (t : Int) (r : Nat → Lk) (b : Nat) (k : ByteArray) (f l c : Int) : Prop where
 P : ChCS w p m g n t
 R : LkRow tLkS w g n r
 B : HdAtS w b k f l c
section
variable {w w' : World} {p m g n : Nat} {t : Int} {r : Nat → Lk} {b : Nat} {k : ByteArray} {f l c : Int}
theorem JAtS.pg (h : JAtS w p m g n t r b k f l c) : p ≠ g := by
 rintro rfl
 obtain ⟨cur, h1, _⟩ := h.R
 have := h.P.symm.trans h1
 simp at this
 exact absurd this.2 (by decide)
theorem JAtS.pb (h : JAtS w p m g n t r b k f l c) : p ≠ b := by
 rintro rfl
 have := h.P.symm.trans h.B
 simp at this
 exact absurd this.2 (by decide)
theorem JAtS.gb (h : JAtS w p m g n t r b k f l c) : g ≠ b := by
 rintro rfl
 obtain ⟨cur, h1, _⟩ := h.R
 have := h1.symm.trans h.B
 simp at this
 exact absurd this.2 (by decide)
theorem JAtS.below (h : JAtS w p m g n t r b k f l c) (hb : Below w.heap.size w w') : JAtS w' p m g n t r b k f l c :=
 ⟨h.P.below hb, h.R.kept (hb.block g h.R.lt), h.B.below hb⟩
theorem JAtS.setR (h : JAtS w p m g n t r b k f l c) {j : Nat} {u : Value} {s : Nat → Lk} (hr : LkRow tLkS (w.setCell ⟨g, j, none⟩ u) g n s) : JAtS (w.setCell ⟨g, j, none⟩ u) p m g n t s b k f l c :=
 ⟨h.P.off (off_set w g j u) h.pg, hr, h.B.off (off_set w g j u) (fun e => h.gb e.symm)⟩
theorem JAtS.setF (h : JAtS w p m g n t r b k f l c) (v : Int) : JAtS (w.setCell ⟨b, 1, none⟩ (.int .i64 v)) p m g n t r b k v l c :=
 ⟨h.P.off (off_set w b _ _) h.pb, h.R.kept ((off_set w b 1 (.int .i64 v)).block g h.R.lt h.gb), h.B.setF v⟩
theorem JAtS.setL (h : JAtS w p m g n t r b k f l c) (v : Int) : JAtS (w.setCell ⟨b, 2, none⟩ (.int .i64 v)) p m g n t r b k f v c :=
 ⟨h.P.off (off_set w b _ _) h.pb, h.R.kept ((off_set w b 2 (.int .i64 v)).block g h.R.lt h.gb), h.B.setL v⟩
theorem JAtS.setC (h : JAtS w p m g n t r b k f l c) (v : Int) : JAtS (w.setCell ⟨b, 3, none⟩ (.int .i64 v)) p m g n t r b k f l v :=
 ⟨h.P.off (off_set w b _ _) h.pb, h.R.kept ((off_set w b 3 (.int .i64 v)).block g h.R.lt h.gb), h.B.setC v⟩
theorem JAtS.setT (h : JAtS w p m g n t r b k f l c) (v : Int) : JAtS (w.setCell ⟨p, 2, none⟩ (.int .i64 v)) p m g n v r b k f l c :=
 ⟨h.P.setT v, h.R.kept ((off_set w p 2 (.int .i64 v)).block g h.R.lt (fun e => h.pg e.symm)), h.B.off (off_set w p _ _) (fun e => h.pb e.symm)⟩
theorem JAtS.as {s : Nat → Lk} {f2 l2 : Int} (h : JAtS w p m g n t r b k f l c) (hr : ∀ i, i < n → r i = s i) (hf : f = f2) (hl : l = l2) : JAtS w p m g n t s b k f2 l2 c := by
 subst hf; subst hl
 exact ⟨h.P, h.R.congr hr, h.B⟩
end
theorem jJoinS {w : World} {p m g n : Nat} {t : Int} {r : Nat → Lk} {b : Nat} {k : ByteArray} {f l c : Int} (h : JAtS w p m g n t r b k f l c) (a z : Int) (ha : a = -1 ∨ 0 ≤ a ∧ a < n) (hz : z = -1 ∨ 0 ≤ z ∧ z < n) :
 Calls Try.prog 59 #[.pointer (some ⟨p, 0, none⟩), .pointer (some ⟨b, 0, none⟩), .int .i64 a, .int .i64 z] w
  fun e w' => e = .returned (.tuple #[]) ∧ JAtS w' p m g n t (jP (jN r a z) z a) b k (if a = -1 then z else f) (if z = -1 then a else l) c ∧ Off (fun x => x = g ∨ x = b) w w' := by
 have hg := h.R.lt
 have hb := h.B.lt
 have hp := h.P.lt
 rcases ha with rfl | ⟨a0, a1⟩
 · rw [if_pos rfl, jN_no]
   have fb := h.B.free 1
   have cb := h.B.c1
   have H1 := Lib.hid (h.setF z)
   have O1 := Lib.hid (off_set w b 1 (.int .i64 z))
   clear h
   go_enter Try.func59, Try.ntmps59
   go_upto_region 3 with (fail)
   generalize w.setCell ⟨b, 1, none⟩ (.int .i64 z) = W at *
   clear fb cb hg hb hp
   have hg := H1.out.R.lt
   have hb := H1.out.B.lt
   have hp := H1.out.P.lt
   rcases hz with rfl | ⟨z0, z1⟩
   · have fb := H1.out.B.free 2
     have cb := H1.out.B.c2
     go_wp2_with fail
     go_end0
     exact ⟨rfl, by rw [jP_no]; exact H1.out.setL _, (O1.out.mono (fun x _ e => .inr e)).trans ((off_set W b 2 _).mono (fun x _ e => .inr e))⟩
   · obtain ⟨j, rfl⟩ := Int.eq_ofNat_of_zero_le z0
     have hj : j < n := by omega
     have hne : ((j : Int) == -1) = false := by simp
     have c1 := H1.out.P.c1
     have cg := H1.out.R.c1 hj
     have fg := H1.out.R.free (j * 3 + 1)
     have hj1 : 0 ≤ (j : Int) ∧ (j : Int) < n := ⟨z0, z1⟩
     clear z0 z1
     go_wp2_with fail
     go_end0
     exact ⟨rfl, H1.out.setR (H1.out.R.setP hj _), (O1.out.mono (fun x _ e => .inr e)).trans ((off_set W g _ _).mono (fun x _ e => .inl e))⟩
 · obtain ⟨i, rfl⟩ := Int.eq_ofNat_of_zero_le a0
   have hi : i < n := by omega
   have hne : ((i : Int) == -1) = false := by simp
   rw [if_neg (show ¬ (i : Int) = -1 by omega)]
   have c1 := h.P.c1
   have cg := h.R.c2 hi
   have fg := h.R.free (i * 3 + 2)
   have hi1 : 0 ≤ (i : Int) ∧ (i : Int) < n := ⟨a0, a1⟩
   have H1 := Lib.hid (h.setR (h.R.setN hi z))
   have O1 := Lib.hid (off_set w g (i * 3 + 2) (.int .i64 z))
   clear h a0 a1
   go_enter Try.func59, Try.ntmps59
   go_upto_region 3 with (fail)
   generalize w.setCell ⟨g, i * 3 + 2, none⟩ (.int .i64 z) = W at *
   clear hg hb hp c1 cg fg
   have hg := H1.out.R.lt
   have hb := H1.out.B.lt
   have hp := H1.out.P.lt
   rcases hz with rfl | ⟨z0, z1⟩
   · have fb := H1.out.B.free 2
     have cb := H1.out.B.c2
     go_wp2_with fail
     go_end0
     exact ⟨rfl, by rw [jP_no]; exact H1.out.setL _, (O1.out.mono (fun x _ e => .inl e)).trans ((off_set W b 2 _).mono (fun x _ e => .inr e))⟩
   · obtain ⟨j, rfl⟩ := Int.eq_ofNat_of_zero_le z0
     have hj : j < n := by omega
     have hne2 : ((j : Int) == -1) = false := by simp
     have c1 := H1.out.P.c1
     have cg := H1.out.R.c1 hj
     have fg := H1.out.R.free (j * 3 + 1)
     have hj1 : 0 ≤ (j : Int) ∧ (j : Int) < n := ⟨z0, z1⟩
     clear z0 z1
     go_wp2_with fail
     go_end0
     exact ⟨rfl, H1.out.setR (H1.out.R.setP hj _), (O1.out.mono (fun x _ e => .inl e)).trans ((off_set W g _ _).mono (fun x _ e => .inl e))⟩
theorem jEqualS (k : ByteArray) (w : World) : Calls Try.prog 69 #[svS k, svS k] w fun e w' => e = .returned (.bool true) ∧ Below w.heap.size w w' := by
 have HB := Lib.hid (tr0 w)
 show Calls Try.prog _ #[.string k, .string k] w _
 go_enter Try.func69, Try.ntmps69
 go_wp2_with fail
 go_ret
 exact ⟨rfl, HB.out⟩
theorem jOpenS {w : World} {p m g n : Nat} {t : Int} {M : List (ByteArray × Value)} (hC : ChCS w p m g n t) (hM : mapP w svS okS m M) (k : ByteArray) (hk : okS k) :
 Calls Try.prog 58 #[.pointer (some ⟨p, 0, none⟩), svS k] w
  fun e w' => ∃ b, e = .returned (.pointer (some ⟨b, 0, none⟩)) ∧ w.heap.size ≤ b ∧ HdAtS w' b k (-1) (-1) 0 ∧ mapP w' svS okS m (putM k (.pointer (some ⟨b, 0, none⟩)) M) ∧ Off (· = m) w w' := by
 have HX := Lib.hid (blk_new w (.cells (hdcS k (-1) (-1) 0).toArray tHdS (0, 0)))
 have HB := Lib.hid (trA (tr0 w) (.cells (hdcS k (-1) (-1) 0).toArray tHdS (0, 0)))
 have HC := Lib.hid (hC.below HB.out)
 have HM := Lib.hid (hM.below HB.out hM.lt)
 have HO := Lib.hid hk
 have HML := Lib.hid hM.lt
 clear hC hM hk
 show Calls Try.prog _ #[_, .string k] w _
 go_enter Try.func58, Try.ntmps58
 go_upto_region 2 with (fail)
 rw [show Obj.cells #[Value.string k, Value.int .i64 (-1), Value.int .i64 (-1), Value.int .i64 0] tHdS (0, 0) = .cells (hdcS k (-1) (-1) 0).toArray tHdS (0, 0) from rfl]
 generalize w.alloc (.cells (hdcS k (-1) (-1) 0).toArray tHdS (0, 0)) = W at *
 go_wp2_with fail
 refine (jEqualS k _).mono ?_
 rintro e w1 ⟨rfl, hb1⟩
 have HX1 := Lib.hid (blk_below hb1 HX.out (lt_of_block HX.out))
 have HC1 := Lib.hid (HC.out.below hb1)
 have HM1 := Lib.hid (HM.out.below hb1 HM.out.lt)
 have HB1 := Lib.hid (tr HB.out hb1)
 clear hb1 HX HC HM HB
 have hp := HC1.out.lt
 have c0 := HC1.out.c0
 have HX3 := HX1
 have HM3 := HM1
 have HB3 := HB1
 go_wp2_with (at_mapUpdate; refine wpList_put keyS rfl _ _ _ _ rfl Try.underlying103 rfl HM3.out k _ rfl rfl HO.out ?_; intro w4 hm4 ho4; have HM4 := Lib.hid hm4; have HX4 := Lib.hid (ho4.at HX3.out (fun e => by have := HML.out; omega)); have O4 := Lib.hid ((Off.ofBelow HB3.out).trans ho4); clear hm4 ho4)
 go_ret
 exact ⟨_, rfl, Nat.le_refl _, HX4.out, HM4.out, O4.out⟩
structure ChBS (w : World) (p m g n : Nat) (M : List (ByteArray × Value)) (r : Nat → Lk) (A : ByteArray → List Int) (H : ByteArray → Nat) (t : Int) (S : Nat → Prop) : Prop where
 P : ChCS w p m g n t
 map : mapP w svS okS m M
 R : LkRow tLkS w g n r
 hd : ∀ k, A k ≠ [] → HdAtS w (H k) k (chFst (A k)) (chLst (A k)) ((A k).length : Int)
 rep : Rep n A H r
 mp : ∀ k v, (k, v) ∈ M ↔ A k ≠ [] ∧ v = .pointer (some ⟨H k, 0, none⟩)
 sp : S p
 sm : S m
 sg : S g
 sh : ∀ k, A k ≠ [] → S (H k)
 lt : ∀ x, S x → x < w.heap.size
def ownS (p m g b x : Nat) : Prop := x = p ∨ x = m ∨ x = g ∨ x = b
section
variable {w w' : World} {p m g n : Nat} {M M' : List (ByteArray × Value)} {r : Nat → Lk} {A A' : ByteArray → List Int} {H H' : ByteArray → Nat} {t t' : Int} {S : Nat → Prop}
theorem ChBS.keep (h : ChBS w p m g n M r A H t S) (hs : w.heap.size ≤ w'.heap.size) (e : ∀ x, S x → w'.heap[x]? = w.heap[x]?) : ChBS w' p m g n M r A H t S :=
 ⟨(e p h.sp).trans h.P, h.map.kept (e m h.sm), h.R.kept (e g h.sg), fun k hk => (e _ (h.sh k hk)).trans (h.hd k hk), h.rep, h.mp, h.sp, h.sm, h.sg, h.sh, fun x hx => Nat.lt_of_lt_of_le (h.lt x hx) hs⟩
theorem ChBS.below (h : ChBS w p m g n M r A H t S) (hb : Below w.heap.size w w') : ChBS w' p m g n M r A H t S := h.keep hb.size fun x hx => hb.block x (h.lt x hx)
theorem ChBS.looks (h : ChBS w p m g n M r A H t S) (k : ByteArray) : looks M k (.pointer none) (.pointer (if A k = [] then none else some ⟨H k, 0, none⟩)) := by
 by_cases e : A k = []
 · rw [if_pos e]
   refine .inr ⟨rfl, fun q hq e2 => ?_⟩
   obtain ⟨q1, q2⟩ := q
   have := ((h.mp q1 q2).1 hq).1
   rw [show q1 = k from e2] at this
   exact this e
 · rw [if_neg e]
   exact .inl ((h.mp k _).2 ⟨e, rfl⟩)
theorem ChBS.J (h : ChBS w p m g n M r A H t S) {k : ByteArray} (hk : A k ≠ []) : JAtS w p m g n t r (H k) k (chFst (A k)) (chLst (A k)) ((A k).length : Int) := ⟨h.P, h.R, h.hd k hk⟩
theorem mapP_neS {o : Array Value} {T : TypeId} {b : Nat} (h : mapP w svS okS m M) (hb : w.heap[b]? = some (.cells o T (0, 0))) : m ≠ b := by
 rintro rfl
 obtain ⟨es, c, h1, _⟩ := h
 rw [h1] at hb
 cases hb
theorem ChBS.hne (h : ChBS w p m g n M r A H t S) {k : ByteArray} (hk : A k ≠ []) : H k ≠ p ∧ H k ≠ m ∧ H k ≠ g :=
 ⟨fun e => (h.J hk).pb e.symm, fun e => mapP_neS h.map (h.hd k hk) e.symm, fun e => (h.J hk).gb e.symm⟩
theorem ChBS.inj (h : ChBS w p m g n M r A H t S) {j k : ByteArray} (hj : A j ≠ []) (hk : A k ≠ []) (e : H j = H k) : j = k := by
 have h1 := h.hd j hj
 rw [e] at h1
 exact h1.inj (h.hd k hk)
theorem ChBS.push (B : ChBS w p m g n M r A H t S) (ok : AOk n A) {k : ByteArray} {i : Nat} (hi : i < n) (hno : ∀ j, (i : Int) ∉ A j) {b : Nat} (hA : ∀ j, A' j = if j = k then A k ++ [(i : Int)] else A j)
 (hH : ∀ j, A j ≠ [] → H' j = H j) (hb : H' k = b) (hn : A k = [] → w.heap.size ≤ b) (hm : mapP w' svS okS m M') (mp : ∀ j v, (j, v) ∈ M' ↔ (j = k ∨ A j ≠ []) ∧ v = .pointer (some ⟨H' j, 0, none⟩))
 (J : JAtS w' p m g n t' (jPut r i (some b) (chLst (A k))) b k (chFst (A k ++ [(i : Int)])) i (((A k).length + 1 : Nat) : Int)) (ho : Off (ownS p m g b) w w') : ChBS w' p m g n M' (jPut r i (some b) (chLst (A k))) A' H' t' (fun x => S x ∨ x = b) where
 P := J.P
 map := hm
 R := J.R
 hd := fun j hj => by
  rw [hA j] at hj ⊢
  by_cases e : j = k
  · subst e
    rw [if_pos rfl, hb, chLst_snoc, List.length_append]
    exact J.B
  · rw [if_neg e] at hj ⊢
    rw [hH j hj]
    refine (B.hd j hj).off ho ?_
    obtain ⟨h1, h2, h3⟩ := B.hne hj
    rintro (e2 | e2 | e2 | e2)
    · exact h1 e2
    · exact h2 e2
    · exact h3 e2
    · by_cases h0 : A k = []
      · have := hn h0
        have := B.lt _ (B.sh j hj)
        omega
      · rw [← hb, hH k h0] at e2
        exact e (B.inj hj h0 e2)
 rep := B.rep.push ok hi hno hA hH hb
 mp := fun j v => by
  rw [mp j v, hA j]
  by_cases e : j = k
  · subst e; simp
  · simp [e]
 sp := .inl B.sp
 sm := .inl B.sm
 sg := .inl B.sg
 sh := fun j hj => by
  rw [hA j] at hj
  by_cases e : j = k
  · subst e; exact .inr hb
  · rw [if_neg e] at hj
    rw [hH j hj]
    exact .inl (B.sh j hj)
 lt := fun x hx => by
  rcases hx with hx | rfl
  · exact Nat.lt_of_lt_of_le (B.lt x hx) ho.size
  · exact J.B.lt
theorem ChBS.cut (B : ChBS w p m g n M r A H t S) (ok : AOk n A) {k : ByteArray} {i : Nat} {l1 l2 : List Int} (hk : A k = l1 ++ (i : Int) :: l2) (hA : ∀ j, A' j = if j = k then l1 ++ l2 else A j)
 (hm : mapP w' svS okS m M') (mp : ∀ j v, (j, v) ∈ M' ↔ A' j ≠ [] ∧ v = .pointer (some ⟨H j, 0, none⟩))
 (J : JAtS w' p m g n t' (jCut r i (chLst l1) (chFst l2)) (H k) k (chFst (l1 ++ l2)) (chLst (l1 ++ l2)) ((l1 ++ l2).length : Int)) (ho : Off (ownS p m g (H k)) w w') : ChBS w' p m g n M' (jCut r i (chLst l1) (chFst l2)) A' H t' S where
 P := J.P
 map := hm
 R := J.R
 hd := fun j hj => by
  rw [hA j] at hj ⊢
  by_cases e : j = k
  · subst e
    rw [if_pos rfl]
    exact J.B
  · rw [if_neg e] at hj ⊢
    refine (B.hd j hj).off ho ?_
    obtain ⟨h1, h2, h3⟩ := B.hne hj
    rintro (e2 | e2 | e2 | e2)
    · exact h1 e2
    · exact h2 e2
    · exact h3 e2
    · exact e (B.inj hj (by rw [hk]; simp) e2)
 rep := B.rep.cut ok hk hA
 mp := mp
 sp := B.sp
 sm := B.sm
 sg := B.sg
 sh := fun j hj => by
  rw [hA j] at hj
  by_cases e : j = k
  · subst e; exact B.sh j (by rw [hk]; simp)
  · rw [if_neg e] at hj; exact B.sh j hj
 lt := fun x hx => Nat.lt_of_lt_of_le (B.lt x hx) ho.size
theorem ChBS.as (h : ChBS w p m g n M r A H t S) (e : ∀ k, A k = A' k) : ChBS w p m g n M r A' H t S := by
 have : A = A' := funext e
 rw [← this]; exact h
end
def chRS : ChainR ByteArray where
 At w p S n L := ∃ m g M r H, ChBS w p m g n M r (chAll L) H L.length S
 keep := by
  rintro w w' p S n L ⟨m, g, M, r, H, h⟩ hs e
  exact ⟨m, g, M, r, H, h.keep hs e⟩
 lt := by
  rintro w p S n L ⟨m, g, M, r, H, h⟩ k hk
  exact h.lt k hk
section
variable {w w' : World} {p m g n : Nat} {M : List (ByteArray × Value)} {r : Nat → Lk} {H : ByteArray → Nat} {S : Nat → Prop} {L : List (ByteArray × Int)}
theorem ChBS.at {t : Int} (h : ChBS w p m g n M r (chAll L) H t S) (e : t = L.length) : chRS.At w p S n L := ⟨m, g, M, r, H, by rw [← e]; exact h⟩
theorem chRS_asked (h : chRS.At w p S n L) (hb : Below w.heap.size w w') : CLeft chRS w p S n L w' := ⟨S, chRS.below h hb, fun k hk => .inl hk, Off.ofBelow hb⟩
theorem ChBS.lkd {t : Int} (h : ChBS w p m g n M r (chAll L) H t S) (i : Int) : lkd n r i = (decide (0 ≤ i ∧ i < n) && chHas L i) := by
 unfold B.lkd
 by_cases hi : 0 ≤ i ∧ i < n
 · rw [decide_eq_true hi, Bool.true_and, Bool.true_and]
   obtain ⟨j, rfl⟩ := Int.eq_ofNat_of_zero_le hi.1
   have hj : j < n := by omega
   show (r j).h.isSome = _
   cases hh : (r j).h with
   | none =>
     have := h.rep.of_none hh
     cases h2 : chHas L (j : Int) with
     | false => rfl
     | true => obtain ⟨k, hk⟩ := (chHas_all L j).1 h2; exact absurd hk (this k)
   | some b =>
     obtain ⟨k, l1, l2, e, _⟩ := h.rep.of_some hj hh
     rw [(chHas_all L j).2 ⟨k, by rw [e]; simp⟩]
     rfl
 · rw [decide_eq_false hi, Bool.false_and, Bool.false_and]
theorem ChBS.lkd2 {t : Int} (h : ChBS w p m g n M r (chAll L) H t S) (ok : ChOk n L) (i : Int) : B.lkd n r i = chHas L i := by
 rw [h.lkd i]
 cases hh : chHas L i with
 | false => rw [Bool.and_false]
 | true => rw [decide_eq_true (chHas_rg ok hh)]; rfl
end
section
variable {w w' : World} {p m g n : Nat} {M : List (ByteArray × Value)} {r : Nat → Lk} {H : ByteArray → Nat} {S : Nat → Prop} {L : List (ByteArray × Int)}
theorem jFirstS (B : ChBS w p m g n M r (chAll L) H L.length S) (k : ByteArray) (hk : okS k) : Calls Try.prog 61 #[.pointer (some ⟨p, 0, none⟩), svS k] w fun e w' => e = .returned (.int .i64 (chFst (chAll L k))) ∧ Below w.heap.size w w' := by
 have HB := Lib.hid (tr0 w)
 have HV := Lib.hid (B.below HB.out)
 clear B
 by_cases h0 : chAll L k = []
 · have HLK := Lib.hid (HV.out.looks k)
   rw [if_pos h0] at HLK
   rw [h0]
   clear h0
   show Calls Try.prog _ #[_, .string k] w _
   go_enter Try.func61, Try.ntmps61
   go_wp2_with fail
   refine (jFindS HV.out.P HV.out.map k hk _ HLK.out).mono ?_
   rintro e w1 ⟨rfl, hb1⟩
   go_wp2_with fail
   go_ret
   exact ⟨rfl, tr HB.out hb1⟩
 · have HLK := Lib.hid (HV.out.looks k)
   rw [if_neg h0] at HLK
   have HJ := Lib.hid (HV.out.J h0)
   generalize H k = b at *
   clear h0
   show Calls Try.prog _ #[_, .string k] w _
   go_enter Try.func61, Try.ntmps61
   go_wp2_with fail
   refine (jFindS HV.out.P HV.out.map k hk _ HLK.out).mono ?_
   rintro e w1 ⟨rfl, hb1⟩
   have HB1 := Lib.hid (tr HB.out hb1)
   have HJ1 := Lib.hid (HJ.out.below hb1)
   clear hb1
   have hb := HJ1.out.B.lt
   have c1 := HJ1.out.B.c1
   go_wp2_with fail
   go_ret
   exact ⟨rfl, HB1.out⟩
theorem ChBS.place (B : ChBS w p m g n M r (chAll L) H L.length S) (ok : ChOk n L) {i : Nat} (hi : i < n) (hh : chHas L i = true) : ∃ k l1 l2, chAll L k = l1 ++ (i : Int) :: l2 ∧ r i = ⟨some (H k), chLst l1, chFst l2⟩ ∧ chNext L i = chFst l2 ∧ chKey L i = some k := by
 cases hx : (r i).h with
 | none => exact absurd ((chHas_all L i).1 hh) fun ⟨k, h⟩ => B.rep.of_none hx k h
 | some b =>
   obtain ⟨k, l1, l2, e, _, h⟩ := B.rep.of_some hi hx
   refine ⟨k, l1, l2, e, h, ?_, chKey_all ok (by rw [e]; simp)⟩
   rw [chNext_step ok k (j := l1.length) (by rw [e, List.getElem?_append_right (Nat.le_refl _), Nat.sub_self]; rfl), e, show l1 ++ (i : Int) :: l2 = (l1 ++ [(i : Int)]) ++ l2 by simp, List.drop_append_of_le_length (by simp), List.drop_eq_nil_of_le (by simp)]
   rfl
theorem jNextS (B : ChBS w p m g n M r (chAll L) H L.length S) (ok : ChOk n L) (i : Int) : Calls Try.prog 71 #[.pointer (some ⟨p, 0, none⟩), .int .i64 i] w fun e w' => e = .returned (.int .i64 (chNext L i)) ∧ w = w' := by
 have hlk := B.lkd2 ok i
 have HV := Lib.hid B
 cases hh : chHas L i with
 | false =>
   rw [hh] at hlk
   have hno : chNext L i = -1 := chNext_none (chHas_no hh)
   rw [hno]
   clear B ok hh hno
   go_enter Try.func71, Try.ntmps71
   go_wp2_with (go_at_call 57; refine (jLinkedS HV.out.P HV.out.R i).mono ?_; rintro e w2 ⟨rfl, rfl⟩; rw [hlk])
   go_ret
   exact ⟨rfl, rfl⟩
 | true =>
   rw [hh] at hlk
   obtain ⟨h0, h1⟩ := chHas_rg ok hh
   obtain ⟨j, rfl⟩ := Int.eq_ofNat_of_zero_le h0
   have hj : j < n := by omega
   obtain ⟨k, l1, l2, _, hr, hn, _⟩ := B.place ok hj hh
   have hjr : 0 ≤ (j : Int) ∧ (j : Int) < n := ⟨h0, h1⟩
   rw [hn]
   have c1 := B.P.c1
   have hp := B.P.lt
   have hg := B.R.lt
   have q2 : w.cell? ⟨g, j * 3 + 2, none⟩ = some (.int .i64 (chFst l2)) := by have := B.R.c2 hj; rw [hr] at this; exact this
   clear B ok hh hn hr h0 h1
   go_enter Try.func71, Try.ntmps71
   go_wp2_with (go_at_call 57; refine (jLinkedS HV.out.P HV.out.R _).mono ?_; rintro e w2 ⟨rfl, rfl⟩; rw [hlk])
   go_ret
   exact ⟨rfl, rfl⟩
end
def oLksS (n : Nat) : Obj := .cells (madeCells (Value.agg #[.pointer none, .int .i64 0, .int .i64 0]).cells (n * 3)) tLkS (0, 0)
theorem infoLkS : (Try.prog.info? 102).map (fun i => (i.zero, i.size, i.bytes)) = some (some (.agg #[.pointer none, .int .i64 0, .int .i64 0]), 3, 24) := by kernel_rfl
theorem mkLkS (n : Nat) (n1 : n ≤ 4096) (w : World) : (Instr.makeSlice 104 (.int .i64 n) (.int .i64 n)).run Try.prog w = .ok (.slice (some ⟨w.heap.size, 0, none⟩) n n) (w.alloc (oLksS n)) := by
 obtain ⟨i0, hi, hz0, hz1, hz2⟩ := info_parts infoLkS
 have hr := run_make (P := Try.prog) w 104 102 i0 _ Try.underlying104 hi hz0 .i64 .i64 n n (by omega) (Int.le_refl _) (by rw [hz2]; omega) (by omega)
 rw [hz1] at hr
 simpa [oLksS] using hr
theorem madeLkS (n : Nat) (w : World) : LkRow tLkS (w.alloc (oLksS n)) w.heap.size n (fun _ => lk0) := by
 refine ⟨_, blk_new w (oLksS n), by rw [size_madeCells], fun i hi => ?_⟩
 have key : ∀ j, j < 3 → (madeCells (Value.agg #[.pointer none, .int .i64 0, .int .i64 0]).cells (n * 3))[i * 3 + j]? = some ((#[Value.pointer none, .int .i64 0, .int .i64 0])[j]!) := fun j hj => by
  have hlt : i * 3 + j < n * 3 := by omega
  unfold madeCells
  simp only [Array.getElem?_map]
  rw [show (Array.range (n * 3))[i * 3 + j]? = some (i * 3 + j) by simp [hlt]]
  simp only [Option.map_some, Value.cells]
  rw [show (i * 3 + j) % (#[Value.pointer none, .int .i64 0, .int .i64 0]).size = j by show (i * 3 + j) % 3 = j; omega]
 exact ⟨key 0 (by decide), key 1 (by decide), key 2 (by decide)⟩
theorem ChBS.empty {w : World} {p m g n : Nat} (hP : ChCS w p m g n 0) (hm : mapP w svS okS m []) (hR : LkRow tLkS w g n (fun _ => lk0)) : ChBS w p m g n [] (fun _ => lk0) (chAll []) (fun _ => 0) (([] : List (ByteArray × Int)).length : Int) (fun x => x = p ∨ x = m ∨ x = g) where
 P := hP
 map := hm
 R := hR
 hd := fun k hk => absurd rfl hk
 rep := ⟨(fun k j i h => nomatch h), fun i hi h => rfl⟩
 mp := fun k v => ⟨(fun h => nomatch h), fun h => absurd rfl h.1⟩
 sp := .inl rfl
 sm := .inr (.inl rfl)
 sg := .inr (.inr rfl)
 sh := fun k hk => absurd rfl hk
 lt := fun x hx => by
  rcases hx with rfl | rfl | rfl
  · exact hP.lt
  · exact hm.lt
  · exact hR.lt
theorem jEmptyS (n : Nat) (n1 : n ≤ 4096) (w : World) : Calls Try.prog 54 #[.int .i64 n] w fun e w' => ∃ (p : Nat) (S : Nat → Prop), e = .returned (.pointer (some ⟨p, 0, none⟩)) ∧ chRS.At w' p S n [] ∧ (∀ k, S k → w.heap.size ≤ k) ∧ Below w.heap.size w w' := by
 have mk := mkLkS n n1
 have hmm : ∀ w : World, (Instr.makeMap 103 none).run Try.prog w = .ok (.map (some w.heap.size)) (w.alloc (.map #[] 0)) := fun w => run_makeMap _ w
 have h1 := mapP_made w svS okS
 have b1 := trA (tr0 w) (.map #[] 0)
 generalize hW1 : w.alloc (.map #[] 0) = W1 at *
 have e1 : W1.heap.size = w.heap.size + 1 := by rw [← hW1]; simp
 have h2 := madeLkS n W1
 have b2 := trA (tr0 W1) (oLksS n)
 have h2m := h1.below b2 h1.lt
 generalize hW2 : W1.alloc (oLksS n) = W2 at *
 have e2 : W2.heap.size = w.heap.size + 2 := by rw [← hW2]; simp; omega
 have h3 := blk_new W2 (.cells #[.map (some w.heap.size), .slice (some ⟨W1.heap.size, 0, none⟩) n n, .int .i64 0] tChS (0, 0))
 have b3 := trA (tr0 W2) (.cells #[.map (some w.heap.size), .slice (some ⟨W1.heap.size, 0, none⟩) n n, .int .i64 0] tChS (0, 0))
 have H := Lib.hid (ChBS.empty (p := W2.heap.size) (m := w.heap.size) (g := W1.heap.size) (n := n) h3 (h2m.below b3 h2m.lt) (h2.kept (b3.block _ h2.lt)))
 have HB := Lib.hid (tr (tr b1 b2) b3)
 have HE := Lib.hid (show W1.heap.size = w.heap.size + 1 ∧ W2.heap.size = w.heap.size + 2 from ⟨e1, e2⟩)
 clear h1 b1 h2 b2 h2m h3 b3 e1 e2
 go_enter Try.func54, Try.ntmps54
 go_wp2_with fail
 go_ret
 exact ⟨_, _, rfl, H.out.at rfl, (by
  obtain ⟨e1, e2⟩ := HE.out
  rintro k (rfl | rfl | rfl) <;> omega), HB.out⟩
theorem jNewS (n : Nat) (w : World) (n0 : 1 ≤ n) (n1 : n ≤ 4096) : Calls Try.prog 36 #[.int .i64 n] w fun e w' => ∃ (p : Nat) (S : Nat → Prop), e = .returned (.tuple #[.pointer (some ⟨p, 0, none⟩), .int .i64 0]) ∧ chRS.At w' p S n [] ∧ (∀ k, S k → w.heap.size ≤ k) ∧ Below w.heap.size w w' := by
 have h0 : ¬ (n : Int) < 1 := by omega
 have h1 : ¬ (4096 : Int) < n := by omega
 go_enter Try.func36, Try.ntmps36
 go_wp2_with fail
 refine (jEmptyS n n1 w).mono ?_
 rintro e w' ⟨p, S, rfl, hA, hS, hb⟩
 go_wp2_with fail
 go_ret2
 exact ⟨p, S, rfl, hA, hS, hb⟩
theorem jNewNoS (a : Int) (w : World) (ha : i64r a) (hn : ¬ (1 ≤ a ∧ a ≤ 4096)) : Calls Try.prog 36 #[.int .i64 a] w fun e w' => e = .returned (.tuple #[.pointer none, .int .i64 5]) ∧ Below w.heap.size w w' := by
 by_cases h0 : a < 1
 · go_enter Try.func36, Try.ntmps36
   go_wp2_with fail
   go_ret2
   exact ⟨rfl, tr0 _⟩
 · have h1 : (4096 : Int) < a := by omega
   go_enter Try.func36, Try.ntmps36
   go_wp2_with fail
   go_ret2
   exact ⟨rfl, tr0 _⟩
end Go.Proofs.Ytopkmjiilnoeeaa.B
