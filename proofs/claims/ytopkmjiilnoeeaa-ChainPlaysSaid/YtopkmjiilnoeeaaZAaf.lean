/- Several texts in one: Layer 17's own chains, keys of type [2]int: their blocks; find, open. Layer 17's own chains, keys of type [2]int: has, .. -/
import Derived.Test.YtopkmjiilnoeeaaZAae
import Derived.Defers
import Derived.Recover
import Derived.Deep.Cut
import Derived.StillTail
namespace Go.Proofs.Ytopkmjiilnoeeaa.B
set_option linter.unusedVariables false
set_option linter.unusedSimpArgs false
set_option maxRecDepth 100000
open Go.ChangeShapes Go.WideShapes Go.RowKit Go.Sort Go.MapKept
abbrev tHdK : TypeId := 78
abbrev tLkK : TypeId := 71
abbrev tChK : TypeId := 75
def hdcK (k : Kp) (f l c : Int) : List Value := [.int .i64 k.1, .int .i64 k.2, .int .i64 f, .int .i64 l, .int .i64 c]
def HdAtK (w : World) (b : Nat) (k : Kp) (f l c : Int) : Prop := w.heap[b]? = some (.cells (hdcK k f l c).toArray tHdK (0, 0))
def ChCK (w : World) (p m g n : Nat) (t : Int) : Prop := w.heap[p]? = some (.cells #[.map (some m), .slice (some ⟨g, 0, none⟩) n n, .int .i64 t] tChK (0, 0))
section
variable {w w' : World} {b : Nat} {k : Kp} {f l c : Int}
theorem HdAtK.lt (h : HdAtK w b k f l c) : b < w.heap.size := lt_of_block h
theorem HdAtK.below (h : HdAtK w b k f l c) (hb : Below w.heap.size w w') : HdAtK w' b k f l c := blk_below hb h (lt_of_block h)
theorem HdAtK.off {S : Nat → Prop} (h : HdAtK w b k f l c) (ho : Off S w w') (hs : ¬ S b) : HdAtK w' b k f l c := ho.at h hs
theorem HdAtK.free (h : HdAtK w b k f l c) (j : Nat) : w.frozen? ⟨b, j, none⟩ = false := blk_free h j
theorem HdAtK.c1 (h : HdAtK w b k f l c) : w.cell? ⟨b, 2, none⟩ = some (.int .i64 f) := by rw [blk_cell h]; rfl
theorem HdAtK.c2 (h : HdAtK w b k f l c) : w.cell? ⟨b, 3, none⟩ = some (.int .i64 l) := by rw [blk_cell h]; rfl
theorem HdAtK.c3 (h : HdAtK w b k f l c) : w.cell? ⟨b, 4, none⟩ = some (.int .i64 c) := by rw [blk_cell h]; rfl
theorem HdAtK.k0 (h : HdAtK w b k f l c) : w.cell? ⟨b, 0, none⟩ = some (.int .i64 k.1) := by rw [blk_cell h]; rfl
theorem HdAtK.k1 (h : HdAtK w b k f l c) : w.cell? ⟨b, 1, none⟩ = some (.int .i64 k.2) := by rw [blk_cell h]; rfl
theorem HdAtK.setF (h : HdAtK w b k f l c) (v : Int) : HdAtK (w.setCell ⟨b, 2, none⟩ (.int .i64 v)) b k v l c := by unfold HdAtK; rw [blk_set h]; rfl
theorem HdAtK.setL (h : HdAtK w b k f l c) (v : Int) : HdAtK (w.setCell ⟨b, 3, none⟩ (.int .i64 v)) b k f v c := by unfold HdAtK; rw [blk_set h]; rfl
theorem HdAtK.setC (h : HdAtK w b k f l c) (v : Int) : HdAtK (w.setCell ⟨b, 4, none⟩ (.int .i64 v)) b k f l v := by unfold HdAtK; rw [blk_set h]; rfl
theorem HdAtK.inj {k2 : Kp} {f2 l2 c2 : Int} (h : HdAtK w b k f l c) (h2 : HdAtK w b k2 f2 l2 c2) : k = k2 := by
 have := h.symm.trans h2
 simp [hdcK] at this
 exact Prod.ext this.1 this.2.1
variable {p m g n : Nat} {t : Int}
theorem ChCK.lt (h : ChCK w p m g n t) : p < w.heap.size := lt_of_block h
theorem ChCK.below (h : ChCK w p m g n t) (hb : Below w.heap.size w w') : ChCK w' p m g n t := blk_below hb h (lt_of_block h)
theorem ChCK.off {S : Nat → Prop} (h : ChCK w p m g n t) (ho : Off S w w') (hs : ¬ S p) : ChCK w' p m g n t := ho.at h hs
theorem ChCK.free (h : ChCK w p m g n t) (j : Nat) : w.frozen? ⟨p, j, none⟩ = false := blk_free h j
theorem ChCK.c0 (h : ChCK w p m g n t) : w.cell? ⟨p, 0, none⟩ = some (.map (some m)) := by rw [blk_cell h]; rfl
theorem ChCK.c1 (h : ChCK w p m g n t) : w.cell? ⟨p, 1, none⟩ = some (.slice (some ⟨g, 0, none⟩) n n) := by rw [blk_cell h]; rfl
theorem ChCK.c2 (h : ChCK w p m g n t) : w.cell? ⟨p, 2, none⟩ = some (.int .i64 t) := by rw [blk_cell h]; rfl
theorem ChCK.setT (h : ChCK w p m g n t) (v : Int) : ChCK (w.setCell ⟨p, 2, none⟩ (.int .i64 v)) p m g n v := by unfold ChCK; rw [blk_set h]; rfl
end
theorem jDefK (p1 p2 : Addr) (w : World) : CallsD Try.prog 62 #[.pointer (some p1), .pointer (some p2)] .returning w fun e u' w' => e = .returned (.tuple #[]) ∧ u' = .returning ∧ w' = w := by
 refine callsD_of_wpS Try.func62 rfl fun c₀ cs hu => ?_
 apply wpS_seq
 apply wpS_region
 simp [wpOpsS, go_sem, recoverD, hu, Try.ntmps62, Exit.thenS]
 refine wpS_cond (t := false) (by simp [Act.eval, Array.replicate]) ?_
 simp only [Bool.false_eq_true, if_false]
 refine wpS_of_wp (wp_skip ?_)
 cases c₀
 simp_all [bodyPostS, results, Try.results62]
theorem zHpK (w : World) : (zeroValue 66).run Try.prog w = .ok (.pointer none) w := by kernel_rfl
theorem find_retK {Y : World} {tmps : Array Value} {v : Value} {x y : Nat} (h4 : tmps[4]? = some (.pointer (some ⟨x, 0, none⟩))) (h5 : tmps[5]? = some (.pointer (some ⟨y, 0, none⟩)))
 (hx : Y.heap[x]? = some (.cells #[v] 66 (0, 0))) (hy : Y.heap[y]? = some (.cells #[.bool true] 4 (0, 0))) {Q : World → Prop} (hQ : Q Y) :
 bodyPostD Try.prog Try.f40 (fun e' w' => e' = .returned (.tuple #[v, .bool true]) ∧ Q w') Exit.ret { tmps := tmps, defers := [{ target := Target.fn (Fn.func 62) #[.pointer (some ⟨x, 0, none⟩), .pointer (some ⟨y, 0, none⟩)], args := #[] }] } Y := by
 have hy1 := blk_cell hx 0
 have hy2 := blk_cell hy 0
 simp at hy1 hy2
 refine leaves_cons (f := 62) (args := #[.pointer (some ⟨x, 0, none⟩), .pointer (some ⟨y, 0, none⟩)]) (by simp) (by simp [go_sem]) ?_
 refine (jDefK ⟨x, 0, none⟩ ⟨y, 0, none⟩ _).mono ?_
 rintro e u' w'' ⟨rfl, rfl, rfl⟩
 simp [Leaves, settle, results, Try.results40, go_sem, h4, h5, hy1, hy2]
 exact hQ
theorem jFindK {w : World} {p m g n : Nat} {t : Int} {M : List (Kp × Value)} (hC : ChCK w p m g n t) (hM : mapP w kv okk m M) (k : Kp) (hk : okk k) (v : Option Addr) (hv : looks M k (.pointer none) (.pointer v)) :
 Calls Try.prog 40 #[.pointer (some ⟨p, 0, none⟩), kv k] w fun e w' => e = .returned (.tuple #[.pointer v, .bool true]) ∧ Below w.heap.size w w' := by
 have hmf : ∀ (fn : Fn) (first cap : Array Value) (w : World), (Instr.makeFunc fn first cap).run Try.prog w = .ok (.func fn first cap) w := fun _ _ _ _ => rfl
 have HX := Lib.hid (b3_1 w (.cells #[.int .i64 k.1, .int .i64 k.2] 27 (0, 0)) (.cells #[.pointer none] 66 (0, 0)) (.cells #[.bool false] 4 (0, 0)))
 have HY := Lib.hid (b3_2 w (.cells #[.int .i64 k.1, .int .i64 k.2] 27 (0, 0)) (.cells #[.pointer none] 66 (0, 0)) (.cells #[.bool false] 4 (0, 0)))
 have HK := Lib.hid (b3_0 w (.cells #[.int .i64 k.1, .int .i64 k.2] 27 (0, 0)) (.cells #[.pointer none] 66 (0, 0)) (.cells #[.bool false] 4 (0, 0)))
 have HB := Lib.hid (trA (trA (trA (tr0 w) (.cells #[.int .i64 k.1, .int .i64 k.2] 27 (0, 0))) (.cells #[.pointer none] 66 (0, 0))) (.cells #[.bool false] 4 (0, 0)))
 have HC := Lib.hid (hC.below HB.out)
 have HM := Lib.hid (hM.below HB.out hM.lt)
 have HV := Lib.hid hv
 have HO := Lib.hid hk
 clear hC hM hv hk
 show Calls Try.prog _ #[_, .agg #[.int .i64 k.1, .int .i64 k.2]] w _
 go_enter_defers Try.func40, Try.ntmps40
 go_upto_region 4 with (fail)
 generalize (((w.alloc (.cells #[.int .i64 k.1, .int .i64 k.2] 27 (0, 0))).alloc (.cells #[.pointer none] 66 (0, 0))).alloc (.cells #[.bool false] 4 (0, 0))) = W at *
 have hp := HC.out.lt
 have c0 := HC.out.c0
 have hgc := gcell
 have hgf := gfrozen
 have y0 : W.cell? ⟨w.heap.size, 0, none⟩ = some (.int .i64 k.1) := by rw [blk_cell HK.out]; rfl
 have y1 : W.cell? ⟨w.heap.size, 1, none⟩ = some (.int .i64 k.2) := by rw [blk_cell HK.out]; rfl
 have hy := lt_of_block HK.out
 refine wp_region_tail_below 6 (by kernel_rfl) (by kernel_rfl) ?_
 simp only [List.take_succ_cons, List.take_zero, List.drop_succ_cons, List.drop_zero]
 repeat (first
  | go_big_quiet_skip
  | (go_big_quiet_want; first
   | (refine quiet_look keyK (.tmp 12) (.tmp 13) _ rfl Try.underlying72 rfl (fun w' hw' => HM.out.below (by obtain ⟨q, rfl⟩ := hw'; exact below_regrown W q.d q.os) HM.out.lt) k (.pointer none) (.pointer v) rfl HV.out HO.out zHpK ?_; go_simp; go_big_quiet_on)
   | (go_big_quiet_op; go_big_quiet_on))
  | (refine wpQuiet_nil ?_))
 intro _ hw'
 obtain ⟨⟨dq, osq⟩, hw''⟩ := hw'
 subst hw''
 have hb := below_regrown W dq osq
 have hX := blk_below hb HX.out (lt_of_block HX.out)
 have hY := blk_below hb HY.out (lt_of_block HY.out)
 have HB3 := Lib.hid (tr HB.out hb)
 clear hb hgc hgf y0 y1 hy hp c0 HK HC HM HX HY
 dsimp only at hX hY HB3 ⊢
 generalize grow (redrawn W dq) osq = W3 at *
 rw [show w.heap.size + 2 = w.heap.size + 1 + 1 from rfl] at hY
 have f1 := blk_free hX 0
 have f2 := blk_free hY 0
 have g1 := blk_cell hX 0
 have g2 := blk_cell hY 0
 simp only [List.getElem?_toArray, List.getElem?_cons_zero, List.getElem?_cons_succ] at g1 g2
 have l1 := lt_of_block hX
 have l2 := lt_of_block hY
 have HX3 := Lib.hid hX
 have HY3 := Lib.hid hY
 clear hX hY
 go_wp2_with fail
 refine find_retK (by rfl) (by rfl) ?_ ?_ ?_
 · exact blk_else (blk_set HX3.out 0 _) _ _ _ (by omega)
 · exact blk_set (blk_else HY3.out _ _ _ (by omega)) 0 _
 · exact (HB3.out.setCell (p := ⟨w.heap.size + 1, 0, none⟩) (Nat.le_add_right _ _) _).setCell (p := ⟨w.heap.size + 1 + 1, 0, none⟩) (by show w.heap.size ≤ w.heap.size + 1 + 1; omega) _
theorem jHasK {w : World} {p m g n : Nat} {t : Int} (hC : ChCK w p m g n t) (i : Int) : Calls Try.prog 41 #[.pointer (some ⟨p, 0, none⟩), .int .i64 i] w fun e w' => e = .returned (.bool (decide (0 ≤ i ∧ i < n))) ∧ w = w' := by
 have c1 := hC.c1
 have hp := hC.lt
 clear hC
 by_cases h0 : 0 ≤ i
 · by_cases h1 : i < (n : Int)
   · rw [decide_eq_true (⟨h0, h1⟩ : 0 ≤ i ∧ i < n)]
     go_enter Try.func41, Try.ntmps41
     go_wp2_with fail
     go_ret
     exact ⟨rfl, rfl⟩
   · rw [decide_eq_false (fun h => h1 h.2 : ¬ (0 ≤ i ∧ i < n))]
     go_enter Try.func41, Try.ntmps41
     go_wp2_with fail
     go_ret
     exact ⟨rfl, rfl⟩
 · rw [decide_eq_false (fun h => h0 h.1 : ¬ (0 ≤ i ∧ i < n))]
   go_enter Try.func41, Try.ntmps41
   go_wp2_with fail
   go_ret
   exact ⟨rfl, rfl⟩
theorem jLinkedK {w : World} {p m g n : Nat} {t : Int} {r : Nat → Lk} (hC : ChCK w p m g n t) (hR : LkRow tLkK w g n r) (i : Int) : Calls Try.prog 42 #[.pointer (some ⟨p, 0, none⟩), .int .i64 i] w fun e w' => e = .returned (.bool (lkd n r i)) ∧ w = w' := by
 have HH := Lib.hid (jHasK hC i)
 have c1 := hC.c1
 have hp := hC.lt
 have hg := hR.lt
 by_cases h : 0 ≤ i ∧ i < n
 · rw [decide_eq_true h] at HH
   obtain ⟨h0, h1⟩ := h
   obtain ⟨j, rfl⟩ := Int.eq_ofNat_of_zero_le h0
   have hj : j < n := by omega
   have c0 := hR.c0 hj
   have hl : lkd n r (j : Int) = (r j).h.isSome := by unfold lkd; rw [decide_eq_true ⟨h0, h1⟩]; rfl
   rw [hl]
   clear hC hR hl
   cases hh : (r j).h with
   | none =>
     rw [hh] at c0
     have c : w.cell? ⟨g, j * 3, none⟩ = some (.pointer none) := c0
     clear c0 hh
     go_enter Try.func42, Try.ntmps42
     go_wp2_with (go_at_call 41; refine HH.out.mono ?_; rintro e w1 ⟨rfl, rfl⟩)
     go_ret
     exact ⟨rfl, rfl⟩
   | some b =>
     rw [hh] at c0
     have c : w.cell? ⟨g, j * 3, none⟩ = some (.pointer (some ⟨b, 0, none⟩)) := c0
     clear c0 hh
     go_enter Try.func42, Try.ntmps42
     go_wp2_with (go_at_call 41; refine HH.out.mono ?_; rintro e w1 ⟨rfl, rfl⟩)
     go_ret
     exact ⟨rfl, rfl⟩
 · have hl : lkd n r i = false := by unfold lkd; rw [decide_eq_false h]; rfl
   rw [hl]
   rw [decide_eq_false h] at HH
   clear hC hR hl h
   go_enter Try.func42, Try.ntmps42
   go_wp2_with (go_at_call 41; refine HH.out.mono ?_; rintro e w1 ⟨rfl, rfl⟩)
   go_ret
   exact ⟨rfl, rfl⟩
structure JAtK (w : World) (p m g n : Nat) (t : Int) (r : Nat → Lk) (b : Nat) (k : Kp) (f l c : Int) : Prop where
 P : ChCK w p m g n t
 R : LkRow tLkK w g n r
 B : HdAtK w b k f l c
section
variable {w w' : World} {p m g n : Nat} {t : Int} {r : Nat → Lk} {b : Nat} {k : Kp} {f l c : Int}
theorem JAtK.pg (h : JAtK w p m g n t r b k f l c) : p ≠ g := by
 rintro rfl
 obtain ⟨cur, h1, _⟩ := h.R
 have := h.P.symm.trans h1
 simp at this
 exact absurd this.2 (by decide)
theorem JAtK.pb (h : JAtK w p m g n t r b k f l c) : p ≠ b := by
 rintro rfl
 have := h.P.symm.trans h.B
 simp at this
 exact absurd this.2 (by decide)
theorem JAtK.gb (h : JAtK w p m g n t r b k f l c) : g ≠ b := by
 rintro rfl
 obtain ⟨cur, h1, _⟩ := h.R
 have := h1.symm.trans h.B
 simp at this
 exact absurd this.2 (by decide)
theorem JAtK.below (h : JAtK w p m g n t r b k f l c) (hb : Below w.heap.size w w') : JAtK w' p m g n t r b k f l c :=
 ⟨h.P.below hb, h.R.kept (hb.block g h.R.lt), h.B.below hb⟩
theorem JAtK.setR (h : JAtK w p m g n t r b k f l c) {j : Nat} {u : Value} {s : Nat → Lk} (hr : LkRow tLkK (w.setCell ⟨g, j, none⟩ u) g n s) : JAtK (w.setCell ⟨g, j, none⟩ u) p m g n t s b k f l c :=
 ⟨h.P.off (off_set w g j u) h.pg, hr, h.B.off (off_set w g j u) (fun e => h.gb e.symm)⟩
theorem JAtK.setF (h : JAtK w p m g n t r b k f l c) (v : Int) : JAtK (w.setCell ⟨b, 2, none⟩ (.int .i64 v)) p m g n t r b k v l c :=
 ⟨h.P.off (off_set w b _ _) h.pb, h.R.kept ((off_set w b 2 (.int .i64 v)).block g h.R.lt h.gb), h.B.setF v⟩
theorem JAtK.setL (h : JAtK w p m g n t r b k f l c) (v : Int) : JAtK (w.setCell ⟨b, 3, none⟩ (.int .i64 v)) p m g n t r b k f v c :=
 ⟨h.P.off (off_set w b _ _) h.pb, h.R.kept ((off_set w b 3 (.int .i64 v)).block g h.R.lt h.gb), h.B.setL v⟩
theorem JAtK.setC (h : JAtK w p m g n t r b k f l c) (v : Int) : JAtK (w.setCell ⟨b, 4, none⟩ (.int .i64 v)) p m g n t r b k f l v :=
 ⟨h.P.off (off_set w b _ _) h.pb, h.R.kept ((off_set w b 4 (.int .i64 v)).block g h.R.lt h.gb), h.B.setC v⟩
theorem JAtK.setT (h : JAtK w p m g n t r b k f l c) (v : Int) : JAtK (w.setCell ⟨p, 2, none⟩ (.int .i64 v)) p m g n v r b k f l c :=
 ⟨h.P.setT v, h.R.kept ((off_set w p 2 (.int .i64 v)).block g h.R.lt (fun e => h.pg e.symm)), h.B.off (off_set w p _ _) (fun e => h.pb e.symm)⟩
theorem JAtK.as {s : Nat → Lk} {f2 l2 : Int} (h : JAtK w p m g n t r b k f l c) (hr : ∀ i, i < n → r i = s i) (hf : f = f2) (hl : l = l2) : JAtK w p m g n t s b k f2 l2 c := by
 subst hf; subst hl
 exact ⟨h.P, h.R.congr hr, h.B⟩
end
theorem jJoinK {w : World} {p m g n : Nat} {t : Int} {r : Nat → Lk} {b : Nat} {k : Kp} {f l c : Int} (h : JAtK w p m g n t r b k f l c) (a z : Int) (ha : a = -1 ∨ 0 ≤ a ∧ a < n) (hz : z = -1 ∨ 0 ≤ z ∧ z < n) :
 Calls Try.prog 44 #[.pointer (some ⟨p, 0, none⟩), .pointer (some ⟨b, 0, none⟩), .int .i64 a, .int .i64 z] w
  fun e w' => e = .returned (.tuple #[]) ∧ JAtK w' p m g n t (jP (jN r a z) z a) b k (if a = -1 then z else f) (if z = -1 then a else l) c ∧ Off (fun x => x = g ∨ x = b) w w' := by
 have hg := h.R.lt
 have hb := h.B.lt
 have hp := h.P.lt
 rcases ha with rfl | ⟨a0, a1⟩
 · rw [if_pos rfl, jN_no]
   have fb := h.B.free 2
   have cb := h.B.c1
   have H1 := Lib.hid (h.setF z)
   have O1 := Lib.hid (off_set w b 2 (.int .i64 z))
   clear h
   go_enter Try.func44, Try.ntmps44
   go_upto_region 3 with (fail)
   generalize w.setCell ⟨b, 2, none⟩ (.int .i64 z) = W at *
   clear fb cb hg hb hp
   have hg := H1.out.R.lt
   have hb := H1.out.B.lt
   have hp := H1.out.P.lt
   rcases hz with rfl | ⟨z0, z1⟩
   · have fb := H1.out.B.free 3
     have cb := H1.out.B.c2
     go_wp2_with fail
     go_end0
     exact ⟨rfl, by rw [jP_no]; exact H1.out.setL _, (O1.out.mono (fun x _ e => .inr e)).trans ((off_set W b 3 _).mono (fun x _ e => .inr e))⟩
   · obtain ⟨j, rfl⟩ := Int.eq_ofNat_of_zero_le z0
     have hj : j < n := by omega
     have hne : ((j : Int) == -1) = false := by simp
     have c1 := H1.out.P.c1
     have cg := H1.out.R.c1 hj
     have fg := H1.out.R.free (j * 3 + 1)
     have hj1 : 0 ≤ (j : Int) ∧ (j : Int) < n := ⟨z0, z1⟩
     clear z0 z1
     go_wp2_with fail
     go_end0
     exact ⟨rfl, H1.out.setR (H1.out.R.setP hj _), (O1.out.mono (fun x _ e => .inr e)).trans ((off_set W g _ _).mono (fun x _ e => .inl e))⟩
 · obtain ⟨i, rfl⟩ := Int.eq_ofNat_of_zero_le a0
   have hi : i < n := by omega
   have hne : ((i : Int) == -1) = false := by simp
   rw [if_neg (show ¬ (i : Int) = -1 by omega)]
   have c1 := h.P.c1
   have cg := h.R.c2 hi
   have fg := h.R.free (i * 3 + 2)
   have hi1 : 0 ≤ (i : Int) ∧ (i : Int) < n := ⟨a0, a1⟩
   have H1 := Lib.hid (h.setR (h.R.setN hi z))
   have O1 := Lib.hid (off_set w g (i * 3 + 2) (.int .i64 z))
   clear h a0 a1
   go_enter Try.func44, Try.ntmps44
   go_upto_region 3 with (fail)
   generalize w.setCell ⟨g, i * 3 + 2, none⟩ (.int .i64 z) = W at *
   clear hg hb hp c1 cg fg
   have hg := H1.out.R.lt
   have hb := H1.out.B.lt
   have hp := H1.out.P.lt
   rcases hz with rfl | ⟨z0, z1⟩
   · have fb := H1.out.B.free 3
     have cb := H1.out.B.c2
     go_wp2_with fail
     go_end0
     exact ⟨rfl, by rw [jP_no]; exact H1.out.setL _, (O1.out.mono (fun x _ e => .inl e)).trans ((off_set W b 3 _).mono (fun x _ e => .inr e))⟩
   · obtain ⟨j, rfl⟩ := Int.eq_ofNat_of_zero_le z0
     have hj : j < n := by omega
     have hne2 : ((j : Int) == -1) = false := by simp
     have c1 := H1.out.P.c1
     have cg := H1.out.R.c1 hj
     have fg := H1.out.R.free (j * 3 + 1)
     have hj1 : 0 ≤ (j : Int) ∧ (j : Int) < n := ⟨z0, z1⟩
     clear z0 z1
     go_wp2_with fail
     go_end0
     exact ⟨rfl, H1.out.setR (H1.out.R.setP hj _), (O1.out.mono (fun x _ e => .inl e)).trans ((off_set W g _ _).mono (fun x _ e => .inl e))⟩
theorem eqlKp {ops : Array Oper} {rest : List Oper} {o : Oper} {a : Act} {w : World} {Q : Exit → Act → World → Prop} (hgd : o.guard = none) (x y : Operand) (u : TypeId) (ho : o.op = .binOp .eql 27 x y u) {k j : Kp} (hx : a.eval x = kv k) (hy : a.eval y = kv j)
 (h : wpList Try.prog ops Q rest (a.put o.dst (.bool (decide (k = j)))) w) : wpList Try.prog ops Q (o :: rest) a w :=
 wpList_plain hgd fun _ hK => by
  unfold Oper.wp execOp
  simp only [ho, hx, hy, Sem.run_bind, guardKp, runKp, Result.andThen_ok]
  exact hK _ _ h
theorem jEqualK (k : Kp) (w : World) : Calls Try.prog 63 #[kv k, kv k] w fun e w' => e = .returned (.bool true) ∧ Below w.heap.size w w' := by
 have HB := Lib.hid (trA (trA (tr0 w) (.cells #[.int .i64 k.1, .int .i64 k.2] 27 (0, 0))) (.cells #[.int .i64 k.1, .int .i64 k.2] 27 (0, 0)))
 show Calls Try.prog _ #[.agg #[.int .i64 k.1, .int .i64 k.2], .agg #[.int .i64 k.1, .int .i64 k.2]] w _
 go_enter Try.func63, Try.ntmps63
 go_wp2_with (refine eqlKp rfl (.tmp 5) (.tmp 6) _ rfl (k := k) (j := k) rfl rfl ?_; rw [decide_eq_true rfl])
 go_ret
 exact ⟨rfl, HB.out⟩
theorem jOpenK {w : World} {p m g n : Nat} {t : Int} {M : List (Kp × Value)} (hC : ChCK w p m g n t) (hM : mapP w kv okk m M) (k : Kp) (hk : okk k) :
 Calls Try.prog 43 #[.pointer (some ⟨p, 0, none⟩), kv k] w
  fun e w' => ∃ b, e = .returned (.pointer (some ⟨b, 0, none⟩)) ∧ w.heap.size ≤ b ∧ HdAtK w' b k (-1) (-1) 0 ∧ mapP w' kv okk m (putM k (.pointer (some ⟨b, 0, none⟩)) M) ∧ Off (· = m) w w' := by
 have HX := Lib.hid (b2_1 w (.cells #[.int .i64 k.1, .int .i64 k.2] 27 (0, 0)) (.cells (hdcK k (-1) (-1) 0).toArray tHdK (0, 0)))
 have HK := Lib.hid (b2_0 w (.cells #[.int .i64 k.1, .int .i64 k.2] 27 (0, 0)) (.cells (hdcK k (-1) (-1) 0).toArray tHdK (0, 0)))
 have HB := Lib.hid (trA (trA (tr0 w) (.cells #[.int .i64 k.1, .int .i64 k.2] 27 (0, 0))) (.cells (hdcK k (-1) (-1) 0).toArray tHdK (0, 0)))
 have HC := Lib.hid (hC.below HB.out)
 have HM := Lib.hid (hM.below HB.out hM.lt)
 have HO := Lib.hid hk
 have HML := Lib.hid hM.lt
 clear hC hM hk
 show Calls Try.prog _ #[_, .agg #[.int .i64 k.1, .int .i64 k.2]] w _
 go_enter Try.func43, Try.ntmps43
 go_upto_region 2 with (fail)
 rw [show Obj.cells #[Value.int .i64 k.1, Value.int .i64 k.2, Value.int .i64 (-1), Value.int .i64 (-1), Value.int .i64 0] tHdK (0, 0) = .cells (hdcK k (-1) (-1) 0).toArray tHdK (0, 0) from rfl]
 generalize (w.alloc (.cells #[.int .i64 k.1, .int .i64 k.2] 27 (0, 0))).alloc (.cells (hdcK k (-1) (-1) 0).toArray tHdK (0, 0)) = W at *
 have hl0 := lt_of_block HK.out
 have y0 : W.cell? ⟨w.heap.size, 0, none⟩ = some (.int .i64 k.1) := by rw [blk_cell HK.out]; rfl
 have y1 : W.cell? ⟨w.heap.size, 1, none⟩ = some (.int .i64 k.2) := by rw [blk_cell HK.out]; rfl
 go_wp2_with (go_at_call 63; refine (jEqualK k _).mono ?_; rintro e w1 ⟨rfl, hb1⟩)
 clear y0 y1 hl0
 have HX1 := Lib.hid (blk_below hb1 HX.out (lt_of_block HX.out))
 have HK1 := Lib.hid (blk_below hb1 HK.out (lt_of_block HK.out))
 have HC1 := Lib.hid (HC.out.below hb1)
 have HM1 := Lib.hid (HM.out.below hb1 HM.out.lt)
 have HB1 := Lib.hid (tr HB.out hb1)
 clear hb1 HX HC HM HB
 clear HK
 have hp := HC1.out.lt
 have c0 := HC1.out.c0
 go_upto_region 3 with (fail)
 have hgc := gcell
 have hgf := gfrozen
 have y0 : w1.cell? ⟨w.heap.size, 0, none⟩ = some (.int .i64 k.1) := by rw [blk_cell HK1.out]; rfl
 have y1 : w1.cell? ⟨w.heap.size, 1, none⟩ = some (.int .i64 k.2) := by rw [blk_cell HK1.out]; rfl
 have hy := lt_of_block HK1.out
 refine wp_region_tail_below 6 (by kernel_rfl) (by kernel_rfl) ?_
 simp only [List.take_succ_cons, List.take_zero, List.drop_succ_cons, List.drop_zero]
 repeat (first | go_big_quiet_step (fail) | (refine wpQuiet_nil ?_))
 intro _ hw'
 obtain ⟨⟨dq, osq⟩, hw''⟩ := hw'
 subst hw''
 have hb := below_regrown w1 dq osq
 have HX3 := Lib.hid (blk_below hb HX1.out (lt_of_block HX1.out))
 have HM3 := Lib.hid (HM1.out.below hb HM1.out.lt)
 have HB3 := Lib.hid (tr HB1.out hb)
 clear hb hgc hgf y0 y1 hy hp c0 HK1 HC1 HM1 HX1 HB1
 dsimp only at HX3 HM3 HB3 ⊢
 generalize grow (redrawn w1 dq) osq = W3 at *
 go_wp2_with (at_mapUpdate; refine wpList_put keyK rfl _ _ _ _ rfl Try.underlying72 rfl HM3.out k _ rfl rfl HO.out ?_; intro w4 hm4 ho4; have HM4 := Lib.hid hm4; have HX4 := Lib.hid (ho4.at HX3.out (fun e => by have := HML.out; omega)); have O4 := Lib.hid ((Off.ofBelow HB3.out).trans ho4); clear hm4 ho4)
 go_ret
 exact ⟨_, rfl, Nat.le_add_right _ _, HX4.out, HM4.out, O4.out⟩
structure ChBK (w : World) (p m g n : Nat) (M : List (Kp × Value)) (r : Nat → Lk) (A : Kp → List Int) (H : Kp → Nat) (t : Int) (S : Nat → Prop) : Prop where
 P : ChCK w p m g n t
 map : mapP w kv okk m M
 R : LkRow tLkK w g n r
 hd : ∀ k, A k ≠ [] → HdAtK w (H k) k (chFst (A k)) (chLst (A k)) ((A k).length : Int)
 rep : Rep n A H r
 mp : ∀ k v, (k, v) ∈ M ↔ A k ≠ [] ∧ v = .pointer (some ⟨H k, 0, none⟩)
 sp : S p
 sm : S m
 sg : S g
 sh : ∀ k, A k ≠ [] → S (H k)
 lt : ∀ x, S x → x < w.heap.size
def ownK (p m g b x : Nat) : Prop := x = p ∨ x = m ∨ x = g ∨ x = b
section
variable {w w' : World} {p m g n : Nat} {M M' : List (Kp × Value)} {r : Nat → Lk} {A A' : Kp → List Int} {H H' : Kp → Nat} {t t' : Int} {S : Nat → Prop}
theorem ChBK.keep (h : ChBK w p m g n M r A H t S) (hs : w.heap.size ≤ w'.heap.size) (e : ∀ x, S x → w'.heap[x]? = w.heap[x]?) : ChBK w' p m g n M r A H t S :=
 ⟨(e p h.sp).trans h.P, h.map.kept (e m h.sm), h.R.kept (e g h.sg), fun k hk => (e _ (h.sh k hk)).trans (h.hd k hk), h.rep, h.mp, h.sp, h.sm, h.sg, h.sh, fun x hx => Nat.lt_of_lt_of_le (h.lt x hx) hs⟩
theorem ChBK.below (h : ChBK w p m g n M r A H t S) (hb : Below w.heap.size w w') : ChBK w' p m g n M r A H t S := h.keep hb.size fun x hx => hb.block x (h.lt x hx)
theorem ChBK.looks (h : ChBK w p m g n M r A H t S) (k : Kp) : looks M k (.pointer none) (.pointer (if A k = [] then none else some ⟨H k, 0, none⟩)) := by
 by_cases e : A k = []
 · rw [if_pos e]
   refine .inr ⟨rfl, fun q hq e2 => ?_⟩
   obtain ⟨q1, q2⟩ := q
   have := ((h.mp q1 q2).1 hq).1
   rw [show q1 = k from e2] at this
   exact this e
 · rw [if_neg e]
   exact .inl ((h.mp k _).2 ⟨e, rfl⟩)
theorem ChBK.J (h : ChBK w p m g n M r A H t S) {k : Kp} (hk : A k ≠ []) : JAtK w p m g n t r (H k) k (chFst (A k)) (chLst (A k)) ((A k).length : Int) := ⟨h.P, h.R, h.hd k hk⟩
theorem mapP_neK {o : Array Value} {T : TypeId} {b : Nat} (h : mapP w kv okk m M) (hb : w.heap[b]? = some (.cells o T (0, 0))) : m ≠ b := by
 rintro rfl
 obtain ⟨es, c, h1, _⟩ := h
 rw [h1] at hb
 cases hb
theorem ChBK.hne (h : ChBK w p m g n M r A H t S) {k : Kp} (hk : A k ≠ []) : H k ≠ p ∧ H k ≠ m ∧ H k ≠ g :=
 ⟨fun e => (h.J hk).pb e.symm, fun e => mapP_neK h.map (h.hd k hk) e.symm, fun e => (h.J hk).gb e.symm⟩
theorem ChBK.inj (h : ChBK w p m g n M r A H t S) {j k : Kp} (hj : A j ≠ []) (hk : A k ≠ []) (e : H j = H k) : j = k := by
 have h1 := h.hd j hj
 rw [e] at h1
 exact h1.inj (h.hd k hk)
theorem ChBK.push (B : ChBK w p m g n M r A H t S) (ok : AOk n A) {k : Kp} {i : Nat} (hi : i < n) (hno : ∀ j, (i : Int) ∉ A j) {b : Nat} (hA : ∀ j, A' j = if j = k then A k ++ [(i : Int)] else A j)
 (hH : ∀ j, A j ≠ [] → H' j = H j) (hb : H' k = b) (hn : A k = [] → w.heap.size ≤ b) (hm : mapP w' kv okk m M') (mp : ∀ j v, (j, v) ∈ M' ↔ (j = k ∨ A j ≠ []) ∧ v = .pointer (some ⟨H' j, 0, none⟩))
 (J : JAtK w' p m g n t' (jPut r i (some b) (chLst (A k))) b k (chFst (A k ++ [(i : Int)])) i (((A k).length + 1 : Nat) : Int)) (ho : Off (ownK p m g b) w w') : ChBK w' p m g n M' (jPut r i (some b) (chLst (A k))) A' H' t' (fun x => S x ∨ x = b) where
 P := J.P
 map := hm
 R := J.R
 hd := fun j hj => by
  rw [hA j] at hj ⊢
  by_cases e : j = k
  · subst e
    rw [if_pos rfl, hb, chLst_snoc, List.length_append]
    exact J.B
  · rw [if_neg e] at hj ⊢
    rw [hH j hj]
    refine (B.hd j hj).off ho ?_
    obtain ⟨h1, h2, h3⟩ := B.hne hj
    rintro (e2 | e2 | e2 | e2)
    · exact h1 e2
    · exact h2 e2
    · exact h3 e2
    · by_cases h0 : A k = []
      · have := hn h0
        have := B.lt _ (B.sh j hj)
        omega
      · rw [← hb, hH k h0] at e2
        exact e (B.inj hj h0 e2)
 rep := B.rep.push ok hi hno hA hH hb
 mp := fun j v => by
  rw [mp j v, hA j]
  by_cases e : j = k
  · subst e; simp
  · simp [e]
 sp := .inl B.sp
 sm := .inl B.sm
 sg := .inl B.sg
 sh := fun j hj => by
  rw [hA j] at hj
  by_cases e : j = k
  · subst e; exact .inr hb
  · rw [if_neg e] at hj
    rw [hH j hj]
    exact .inl (B.sh j hj)
 lt := fun x hx => by
  rcases hx with hx | rfl
  · exact Nat.lt_of_lt_of_le (B.lt x hx) ho.size
  · exact J.B.lt
theorem ChBK.cut (B : ChBK w p m g n M r A H t S) (ok : AOk n A) {k : Kp} {i : Nat} {l1 l2 : List Int} (hk : A k = l1 ++ (i : Int) :: l2) (hA : ∀ j, A' j = if j = k then l1 ++ l2 else A j)
 (hm : mapP w' kv okk m M') (mp : ∀ j v, (j, v) ∈ M' ↔ A' j ≠ [] ∧ v = .pointer (some ⟨H j, 0, none⟩))
 (J : JAtK w' p m g n t' (jCut r i (chLst l1) (chFst l2)) (H k) k (chFst (l1 ++ l2)) (chLst (l1 ++ l2)) ((l1 ++ l2).length : Int)) (ho : Off (ownK p m g (H k)) w w') : ChBK w' p m g n M' (jCut r i (chLst l1) (chFst l2)) A' H t' S where
 P := J.P
 map := hm
 R := J.R
 hd := fun j hj => by
  rw [hA j] at hj ⊢
  by_cases e : j = k
  · subst e
    rw [if_pos rfl]
    exact J.B
  · rw [if_neg e] at hj ⊢
    refine (B.hd j hj).off ho ?_
    obtain ⟨h1, h2, h3⟩ := B.hne hj
    rintro (e2 | e2 | e2 | e2)
    · exact h1 e2
    · exact h2 e2
    · exact h3 e2
    · exact e (B.inj hj (by rw [hk]; simp) e2)
 rep := B.rep.cut ok hk hA
 mp := mp
 sp := B.sp
 sm := B.sm
 sg := B.sg
 sh := fun j hj => by
  rw [hA j] at hj
  by_cases e : j = k
  · subst e; exact B.sh j (by rw [hk]; simp)
  · rw [if_neg e] at hj; exact B.sh j hj
 lt := fun x hx => Nat.lt_of_lt_of_le (B.lt x hx) ho.size
theorem ChBK.as (h : ChBK w p m g n M r A H t S) (e : ∀ k, A k = A' k) : ChBK w p m g n M r A' H t S := by
 have : A = A' := funext e
 rw [← this]; exact h
end
def chRK : ChainR Kp where
 At w p S n L := ∃ m g M r H, ChBK w p m g n M r (chAll L) H L.length S
 keep := by
  rintro w w' p S n L ⟨m, g, M, r, H, h⟩ hs e
  exact ⟨m, g, M, r, H, h.keep hs e⟩
 lt := by
  rintro w p S n L ⟨m, g, M, r, H, h⟩ k hk
  exact h.lt k hk
theorem chRK_same {w : World} {p n : Nat} {S : Nat → Prop} {L L' : List (Kp × Int)} (h : chRK.At w p S n L) (e : ∀ k, chAll L k = chAll L' k) (hl : L.length = L'.length) : chRK.At w p S n L' := by
 obtain ⟨m, g, M, r, H, h⟩ := h
 exact ⟨m, g, M, r, H, by rw [← hl]; exact h.as e⟩
section
variable {w w' : World} {p m g n : Nat} {M : List (Kp × Value)} {r : Nat → Lk} {H : Kp → Nat} {S : Nat → Prop} {L : List (Kp × Int)}
theorem ChBK.at {t : Int} (h : ChBK w p m g n M r (chAll L) H t S) (e : t = L.length) : chRK.At w p S n L := ⟨m, g, M, r, H, by rw [← e]; exact h⟩
theorem chRK_asked (h : chRK.At w p S n L) (hb : Below w.heap.size w w') : CLeft chRK w p S n L w' := ⟨S, chRK.below h hb, fun k hk => .inl hk, Off.ofBelow hb⟩
theorem ChBK.lkd {t : Int} (h : ChBK w p m g n M r (chAll L) H t S) (i : Int) : lkd n r i = (decide (0 ≤ i ∧ i < n) && chHas L i) := by
 unfold B.lkd
 by_cases hi : 0 ≤ i ∧ i < n
 · rw [decide_eq_true hi, Bool.true_and, Bool.true_and]
   obtain ⟨j, rfl⟩ := Int.eq_ofNat_of_zero_le hi.1
   have hj : j < n := by omega
   show (r j).h.isSome = _
   cases hh : (r j).h with
   | none =>
     have := h.rep.of_none hh
     cases h2 : chHas L (j : Int) with
     | false => rfl
     | true => obtain ⟨k, hk⟩ := (chHas_all L j).1 h2; exact absurd hk (this k)
   | some b =>
     obtain ⟨k, l1, l2, e, _⟩ := h.rep.of_some hj hh
     rw [(chHas_all L j).2 ⟨k, by rw [e]; simp⟩]
     rfl
 · rw [decide_eq_false hi, Bool.false_and, Bool.false_and]
theorem ChBK.lkd2 {t : Int} (h : ChBK w p m g n M r (chAll L) H t S) (ok : ChOk n L) (i : Int) : B.lkd n r i = chHas L i := by
 rw [h.lkd i]
 cases hh : chHas L i with
 | false => rw [Bool.and_false]
 | true => rw [decide_eq_true (chHas_rg ok hh)]; rfl
end
end Go.Proofs.Ytopkmjiilnoeeaa.B
